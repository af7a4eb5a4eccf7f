package sluice_test

import (
	"math/rand/v2"
	"regexp"
	"strconv"
	"strings"
	"testing"

	"sluice/api"
)

// The second reader of heads takes them as one pattern, not line by line.
var (
	modelHead = regexp.MustCompile(`\A(?:GET|POST) /(ingest|query) HTTP/1\.1\r\n((?:[A-Za-z0-9-]+:[\t -~]*\r\n)*)\r\n\z`)
	modelName = regexp.MustCompile(`\A[-a-z0-9]{1,8}\z`)
	modelCost = regexp.MustCompile(`\A[0-9]{1,7}\z`)

	modelHosts   = regexp.MustCompile(`(?im)^host:[ \t]*(.*?)[ \t]*\r$`)
	modelOrgs    = regexp.MustCompile(`(?im)^x-org:[ \t]*(.*?)[ \t]*\r$`)
	modelTenants = regexp.MustCompile(`(?im)^x-tenant:[ \t]*(.*?)[ \t]*\r$`)
	modelCosts   = regexp.MustCompile(`(?im)^x-cost:[ \t]*(.*?)[ \t]*\r$`)
)

// readModelHead answers what a head asks for, or the code that it is refused with.
func readModelHead(head string) (api.Request, int) {
	if len(head) > 500 {
		return api.Request{}, 413
	}
	parts := modelHead.FindStringSubmatch(head)
	if parts == nil {
		return api.Request{}, 400
	}
	hosts, orgs := modelHosts.FindAllStringSubmatch(parts[2], -1), modelOrgs.FindAllStringSubmatch(parts[2], -1)
	tenants, costs := modelTenants.FindAllStringSubmatch(parts[2], -1), modelCosts.FindAllStringSubmatch(parts[2], -1)
	if len(hosts) != 1 || len(orgs) != 1 || len(tenants) != 1 || len(costs) > 1 {
		return api.Request{}, 400
	}
	cost := "1"
	if len(costs) == 1 {
		cost = costs[0][1]
	}
	number, _ := strconv.Atoi(cost)
	if hosts[0][1] == "" || !modelName.MatchString(orgs[0][1]) || !modelName.MatchString(tenants[0][1]) || !modelCost.MatchString(cost) || number < 1 || number > 1000000 {
		return api.Request{}, 400
	}
	return api.Request{Class: parts[1], Org: orgs[0][1], Tenant: tenants[0][1], Cost: number}, 0
}

// holdHeadsAgainstModel serves heads at once, and holds the answers against what the model reads and Admit decides.
func holdHeadsAgainstModel(t *testing.T, heads ...string) {
	t.Helper()
	served, admitted := made(t, example), made(t, example)
	var want []string
	for _, head := range heads {
		r, refused := readModelHead(head)
		if refused != 0 {
			want = append(want, textOf(api.Answer{Code: refused}))
			continue
		}
		answer, e := admitted.Admit(r)
		if e != api.OK {
			t.Errorf("Admit(%#v) = %d", r, e)
		}
		want = append(want, textOf(answer))
	}
	wantServe(t, served, heads, want...)
	wantSweep(t, served, admitted.Sweep())
	for _, head := range heads {
		if r, refused := readModelHead(head); refused == 0 {
			for _, tenant := range []string{"", r.Tenant} {
				level, _ := admitted.Level(r.Class, r.Org, tenant)
				wantLevel(t, served, r.Class, r.Org, tenant, level)
			}
		}
	}
}

// someHead is mostly a good head; a few of its pieces are not.
func someHead(random *rand.Rand) string {
	seldom := func(usual string, words ...string) string {
		if random.IntN(40) == 0 {
			return pick(random, words...)
		}
		return usual
	}
	blank := func() string { return pick(random, "", " ", " ", "\t", "  ") }
	field := func(name, value string) string {
		name = pick(random, name, name, strings.ToLower(name), strings.ToUpper(name))
		return name + seldom(":", "", " :", "::", ": :", "=") + blank() + value + blank() + seldom("\r\n", "\n", "", "\r", "\r\n\r\n", "\r\r\n")
	}
	name := func() string {
		return seldom(pick(random, "a", "b", "acme", "abcdefgh"), "", "A", "α", "abcdefghi", "a b", "a\r", "_")
	}
	fields := []string{
		field("Host", seldom("h", "", "\x7f", "é", "a\tb")),
		field("X-Org", name()),
		field("X-Tenant", name()),
	}
	if random.IntN(3) > 0 {
		fields = append(fields, field("X-Cost", seldom(pick(random, "1", "3", "0000002", "10", "11"), "", "0", "1000000", "1000001", "00000001", "x", "+1")))
	}
	if random.IntN(3) == 0 {
		fields = append(fields, field(pick(random, "A", "9-9", "X-Orgs", seldom("B", "", "é", "A_")), pick(random, "", "x", "~ !", strings.Repeat("x", 395+random.IntN(30)))))
	}
	if random.IntN(20) == 0 {
		fields = append(fields, pick(random, fields...))
	}
	if random.IntN(20) == 0 {
		fields = fields[1:]
	}
	random.Shuffle(len(fields), func(i, j int) { fields[i], fields[j] = fields[j], fields[i] })
	first := seldom(pick(random, "GET", "POST"), "PUT", "get", "") + seldom(" ", "", "  ", "\t") + seldom(pick(random, "/ingest", "/query"), "/", "ingest", "/Query") + seldom(" ", "", "  ") + seldom("HTTP/1.1", "HTTP/1.0", "")
	return first + seldom("\r\n", "\n", "") + strings.Join(fields, "") + seldom("\r\n", "", "\n", "\r\n\r\n", "\r\nx")
}

// P8: heads of all sorts are read as the model reads them.
func TestHeadModel(t *testing.T) {
	random := rand.New(rand.NewPCG(5, 6))
	seen := map[int]int{}
	for range 1500 {
		heads := make([]string, random.IntN(12))
		for i := range heads {
			heads[i] = someHead(random)
			_, refused := readModelHead(heads[i])
			seen[refused]++
		}
		holdHeadsAgainstModel(t, heads...)
	}
	for _, refused := range []int{0, 400, 413} {
		if seen[refused] < 100 {
			t.Errorf("only %d heads with the code %d", seen[refused], refused)
		}
	}
}

// P8: a good head with one byte less, more, or other is read as the model reads it.
func TestHeadModelOneByte(t *testing.T) {
	good := headOf("GET /query HTTP/1.1", "Host: h", "X-Org: acme", "X-Tenant:t\t", "X-Cost: 07")
	for i := range len(good) + 1 {
		heads := []string{}
		for _, b := range []byte("\x00\t\n\r !-/09:AHZ_az~\x7f\x80\xff") {
			heads = append(heads, good[:i]+string([]byte{b})+good[i:])
			if i < len(good) {
				heads = append(heads, good[:i]+string([]byte{b})+good[i+1:])
			}
		}
		if i < len(good) {
			heads = append(heads, good[:i]+good[i+1:])
		}
		holdHeadsAgainstModel(t, heads...)
	}
}

// P1: at any heads Serve ends and does not panic, and answers as the model and Admit do.
func FuzzHeads(f *testing.F) {
	f.Add("", "x", "\r\n\r\n")
	f.Add(headOf(firstLine, needed), headOf(firstLine, needed, "X-Cost: 0000010"), headOf("POST /query HTTP/1.1", needed, "A:\t~"))
	f.Add(padded(headOf(firstLine, needed), 500), padded(headOf(firstLine, needed), 501), "\xff")
	f.Fuzz(func(t *testing.T, first, second, third string) {
		holdHeadsAgainstModel(t, first, second, third, first)
	})
}
