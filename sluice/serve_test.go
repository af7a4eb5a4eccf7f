package sluice_test

import (
	"slices"
	"strconv"
	"strings"
	"sync"
	"testing"
	"unsafe"

	"sluice/api"
	"sluice/sluice"
)

const (
	text204 = "HTTP/1.1 204 No Content\r\n\r\n"
	text400 = "HTTP/1.1 400 Bad Request\r\n\r\n"
	text413 = "HTTP/1.1 413 Content Too Large\r\n\r\n"
	text503 = "HTTP/1.1 503 Service Unavailable\r\n\r\n"
)

func text429(retry int) string {
	return "HTTP/1.1 429 Too Many Requests\r\nRetry-After: " + strconv.Itoa(retry) + "\r\n\r\n"
}

func textOf(answer api.Answer) string {
	switch answer.Code {
	case 204:
		return text204
	case 413:
		return text413
	case 429:
		return text429(answer.Retry)
	case 503:
		return text503
	}
	return text400
}

// wide lets every cost through once.
const wide = "default org ingest 1 1000000\ndefault org query 1 1000000\ndefault tenant ingest 1 1000000\ndefault tenant query 1 1000000\n"

// firstLine and needed make the head of an ingest of acme and t, of the cost 1.
const (
	firstLine = "GET /ingest HTTP/1.1"
	needed    = "Host: h\r\nX-Org: acme\r\nX-Tenant: t"
)

// headOf puts the end of a line behind each, and an empty line at the end.
func headOf(lines ...string) string {
	return strings.Join(lines, "\r\n") + "\r\n\r\n"
}

func headFor(r api.Request) string {
	return headOf("POST /"+r.Class+" HTTP/1.1", "Host: h", "X-Org: "+r.Org, "X-Tenant: "+r.Tenant, "X-Cost: "+strconv.Itoa(r.Cost))
}

// padded makes a head of so many bytes of one that is shorter.
func padded(head string, size int) string {
	front := strings.TrimSuffix(head, "\r\n") + "Pad: "
	return front + strings.Repeat("x", size-len(front)-len("\r\n\r\n")) + "\r\n\r\n"
}

func wantServe(t *testing.T, s *sluice.Sluice, heads []string, want ...string) {
	t.Helper()
	if got := s.Serve(heads...); !slices.Equal(got, want) {
		t.Errorf("Serve(%q) = %q, want %q", heads, got, want)
	}
}

// wantGood holds a head to asking for just this.
func wantGood(t *testing.T, head string, class, org, tenant string, cost int) {
	t.Helper()
	s := made(t, wide)
	wantServe(t, s, []string{head}, text204)
	wantLevel(t, s, class, org, tenant, cost*1000000000)
	wantLevel(t, s, class, org, "", cost*1000000000)
	wantSweep(t, s, 2)
	wantNow(t, s, 0)
}

// wantBad holds a head to 400, and to charging nothing.
func wantBad(t *testing.T, heads ...string) {
	t.Helper()
	s := made(t, wide)
	for _, head := range heads {
		if len(head) > 500 {
			t.Errorf("a head of %d bytes", len(head))
		}
		wantServe(t, s, []string{head}, text400)
	}
	wantServe(t, s, heads, slices.Repeat([]string{text400}, len(heads))...)
	wantSweep(t, s, 0)
	wantNow(t, s, 0)
}

// The document's own head.
func TestServeExample(t *testing.T) {
	const head = "POST /ingest HTTP/1.1\r\nHost: h\r\nX-Org: acme\r\nx-tenant:t1 \r\nX-Cost: 007\r\n\r\n"
	wantGood(t, head, "ingest", "acme", "t1", 7)
	s := made(t, example)
	wantServe(t, s, []string{head, head}, text204, text429(1)) // 7 and 7 are 4 above 10 by 5, and 2 above 12 by 2
	tick(t, s, 999999999)
	wantServe(t, s, []string{head}, text429(1))
	tick(t, s, 1)
	wantServe(t, s, []string{head}, text204)
	wantLevel(t, s, "ingest", "acme", "t1", 9000000000)
	wantLevel(t, s, "ingest", "acme", "", 12000000000)
}

// The document's requests, as heads.
func TestServeExampleOfRequests(t *testing.T) {
	s := made(t, example)
	ask := func(tenant string, cost int) string {
		return headFor(api.Request{Class: "ingest", Org: "acme", Tenant: tenant, Cost: cost})
	}
	wantServe(t, s, []string{ask("t1", 10), ask("t1", 1), ask("t2", 3), ask("t1", 13)}, text204, text429(1), text429(1), text413)
	tick(t, s, 500000000)
	wantLevel(t, s, "ingest", "acme", "t1", 7500000000)
	wantLevel(t, s, "ingest", "acme", "", 9000000000)
	wantServe(t, s, []string{ask("t2", 3)}, text204)
}

// P8: each of the five texts, and Retry in seconds.
func TestServeTexts(t *testing.T) {
	s := made(t, example+"org slow query 1 1000000\ntenant slow t query 1 1000000\n")
	slow := api.Request{Class: "query", Org: "slow", Tenant: "t", Cost: 1000000}
	once := slow
	once.Cost = 1
	over := api.Request{Class: "ingest", Org: "acme", Tenant: "t", Cost: 11}
	wantServe(t, s, []string{headFor(slow), headFor(slow), headFor(once), headFor(over), "x"},
		text204, text429(1000000), text429(1), text413, text400)
	tick(t, s, 1)
	two := slow
	two.Cost = 2
	wantServe(t, s, []string{headFor(once), headFor(two)}, text429(1), text429(2))
	s = made(t, example)
	fill(t, s, 64)
	wantServe(t, s, []string{headFor(api.Request{Class: "query", Org: "new", Tenant: "t", Cost: 1})}, text503)
	wantSweep(t, s, 64)
}

// P8: no head, no answer.
func TestServeNone(t *testing.T) {
	s := made(t, example)
	wantThrough(t, s, "ingest", "a", "t", 3)
	tick(t, s, 7)
	wantServe(t, s, nil)
	wantServe(t, s, []string{})
	if got := s.Serve(); len(got) != 0 {
		t.Errorf("Serve() = %q", got)
	}
	wantSweep(t, s, 2)
	wantNow(t, s, 7)
	wantLevel(t, s, "ingest", "a", "t", 2999999965)
}

// P8: many at once are answered in their order, as Admit answers them one behind the other.
func TestServeMany(t *testing.T) {
	for _, count := range []int{1, 2, 3, 70, 5000} {
		atOnce, oneByOne, admitted := made(t, example), made(t, example), made(t, example)
		for range 3 {
			var heads, want []string
			for i := range count {
				r := api.Request{Class: []string{"ingest", "query"}[i%2], Org: "o" + strconv.Itoa(i%37), Tenant: "t" + strconv.Itoa(i%3), Cost: 1 + i*7%11}
				answer, e := admitted.Admit(r)
				if e != api.OK {
					t.Fatalf("Admit(%v) = %d", r, e)
				}
				heads, want = append(heads, headFor(r), headFor(r)[1:]), append(want, textOf(answer), text400)
			}
			wantServe(t, atOnce, heads, want...)
			for i, head := range heads {
				wantServe(t, oneByOne, []string{head}, want[i])
			}
			wantSameBuckets(t, atOnce, admitted)
			wantSameBuckets(t, oneByOne, admitted)
			for _, s := range []*sluice.Sluice{atOnce, oneByOne, admitted} {
				tick(t, s, 300000000)
			}
			wantSameBuckets(t, atOnce, admitted)
			wantSameBuckets(t, oneByOne, admitted)
		}
	}
}

func wantSameBuckets(t *testing.T, s, as *sluice.Sluice) {
	t.Helper()
	wantSweep(t, s, as.Sweep())
	wantNow(t, s, as.Now())
	for org := range 37 {
		for _, tenant := range []string{"", "t0", "t1", "t2"} {
			for _, class := range []string{"ingest", "query"} {
				level, _ := as.Level(class, "o"+strconv.Itoa(org), tenant)
				wantLevel(t, s, class, "o"+strconv.Itoa(org), tenant, level)
			}
		}
	}
}

// P8: what a head is let through bears on those behind it, not on those ahead of it.
func TestServeOrderBears(t *testing.T) {
	ask := func(cost int) string {
		return headFor(api.Request{Class: "ingest", Org: "a", Tenant: "t", Cost: cost})
	}
	wantServe(t, made(t, example), []string{ask(10), ask(1)}, text204, text429(1))
	wantServe(t, made(t, example), []string{ask(1), ask(10)}, text204, text429(1))
	wantServe(t, made(t, example), []string{ask(6), ask(5), ask(4), ask(1)}, text204, text429(1), text204, text429(1))
	wantServe(t, made(t, example), []string{ask(11), ask(10), ask(11)}, text413, text204, text413)
	var heads, want []string
	for i := range 40 {
		heads = append(heads, headFor(api.Request{Class: "query", Org: "o" + strconv.Itoa(i), Tenant: "t", Cost: 1}))
		want = append(want, map[bool]string{true: text204, false: text503}[i < 32])
	}
	wantServe(t, made(t, example), heads, want...)
}

// P8: heads are answered at the limits that hold.
func TestServeReload(t *testing.T) {
	s := made(t, example)
	head := headFor(api.Request{Class: "ingest", Org: "acme", Tenant: "t", Cost: 4})
	wantServe(t, s, []string{head}, text204)
	reload(t, s, slow)
	wantServe(t, s, []string{head}, text413)
	reload(t, s, wide)
	wantServe(t, s, []string{head}, text204)
	wantLevel(t, s, "ingest", "acme", "t", 8000000000)
}

// P8: 500 bytes may be; with more it is 413, be the head good else or not.
func TestServeSize(t *testing.T) {
	good := headOf(firstLine, needed)
	wantGood(t, padded(good, 499), "ingest", "acme", "t", 1)
	wantGood(t, padded(good, 500), "ingest", "acme", "t", 1)
	bad := headOf("PUT /ingest HTTP/1.1", needed)
	wantBad(t, padded(bad, 499), padded(bad, 500), strings.Repeat("x", 500), strings.Repeat("\n", 500), strings.Repeat("\r\n", 250), strings.Repeat("\xff", 500))
	s := made(t, wide)
	for _, head := range []string{
		padded(good, 501), padded(bad, 501), padded(good, 1000), good + strings.Repeat("x", 501-len(good)),
		strings.Repeat("x", 501), strings.Repeat("\r\n", 251), strings.Repeat("\x00", 501), strings.Repeat("x", 3000000), padded(good, 3000000),
		strings.Repeat("α", 251), // 251 characters, but 502 bytes
	} {
		if got := s.Serve(head); !slices.Equal(got, []string{text413}) {
			t.Errorf("Serve of %d bytes = %q", len(head), got)
		}
	}
	wantSweep(t, s, 0)
}

// Heads: two methods, two targets, and which class is meant.
func TestServeFirstLine(t *testing.T) {
	for _, method := range []string{"GET", "POST"} {
		for _, class := range []string{"ingest", "query"} {
			wantGood(t, headOf(method+" /"+class+" HTTP/1.1", needed), class, "acme", "t", 1)
		}
	}
}

// P8: a first line that is none.
func TestServeFirstLineBad(t *testing.T) {
	for _, line := range []string{
		"", " ", "GET", "GET ", "GET /ingest", "GET /ingest ", "/ingest HTTP/1.1", " /ingest HTTP/1.1", "GET HTTP/1.1", "GET  HTTP/1.1",
		"PUT /ingest HTTP/1.1", "HEAD /ingest HTTP/1.1", "get /ingest HTTP/1.1", "Post /ingest HTTP/1.1", "GETS /ingest HTTP/1.1", "GE /ingest HTTP/1.1", "GETPOST /ingest HTTP/1.1",
		"GET / HTTP/1.1", "GET ingest HTTP/1.1", "GET //ingest HTTP/1.1", "GET /ingest/ HTTP/1.1", "GET /Ingest HTTP/1.1", "GET /QUERY HTTP/1.1", "GET /other HTTP/1.1",
		"GET /ingest?x HTTP/1.1", "GET /ingest#x HTTP/1.1", "GET /ingests HTTP/1.1", "GET /%69ngest HTTP/1.1", "GET http://h/ingest HTTP/1.1", "GET /ingest/query HTTP/1.1", "GET * HTTP/1.1",
		"GET /ingest HTTP/1.0", "GET /ingest HTTP/2", "GET /ingest HTTP/1.11", "GET /ingest HTTP/1.", "GET /ingest HTTP/1,1", "GET /ingest http/1.1", "GET /ingest HTTP/1.1x", "GET /ingest HTTP",
		" GET /ingest HTTP/1.1", "GET  /ingest HTTP/1.1", "GET /ingest  HTTP/1.1", "GET /ingest HTTP/1.1 ", "GET/ingest HTTP/1.1", "GET /ingestHTTP/1.1", "GET /ingest HTTP/1.1 x",
		"GET\t/ingest HTTP/1.1", "GET /ingest\tHTTP/1.1", "GET /ingest HTTP/1.1\t", "\tGET /ingest HTTP/1.1", "GET /ingest HTTP/1.1\r", "GET /ingest HTTP/1.1\n", "\xffGET /ingest HTTP/1.1", "GET\u00a0/ingest HTTP/1.1", "Host: h",
	} {
		wantBad(t, headOf(line, needed))
	}
	wantBad(t, headOf(needed), headOf(needed, firstLine), headOf(firstLine, firstLine, needed), "\r\n"+headOf(firstLine, needed))
}

// P8: each line has the bytes 13 10 behind it, and nothing else will do.
func TestServeLineEnds(t *testing.T) {
	good := headOf(firstLine, needed, "X-Cost: 2")
	wantGood(t, good, "ingest", "acme", "t", 2)
	for i := range len(good) - 1 {
		if good[i:i+2] != "\r\n" {
			continue
		}
		for _, end := range []string{"\n", "\r", "", "\n\r", "\r\r\n", "\r\n\n", "\n\n", "\r\n\r\n", " \r\n ", "\r \n", "\v", "\f", "\u0085", "\u2028", "\x00"} {
			wantBad(t, good[:i]+end+good[i+2:])
		}
	}
	wantBad(t, strings.ReplaceAll(good, "\r\n", "\n"), strings.ReplaceAll(good, "\r\n", "\r"), strings.ReplaceAll(good, "\r\n", ""))
}

// P8: the last line is empty, and nothing stands behind it.
func TestServeEnd(t *testing.T) {
	good := headOf(firstLine, needed)
	for i := range good {
		wantBad(t, good[:i])
	}
	for _, more := range []string{"\r\n", "\r", "\n", " ", "x", "\x00", "Pad: x\r\n", "Pad: x\r\n\r\n", "{}", good} {
		wantBad(t, good+more)
	}
	wantBad(t, "", "\r\n", "\r\n\r\n", "\r\n\r\n\r\n", "\n\n", headOf(firstLine), headOf(firstLine, ""), headOf(firstLine, "", needed), headOf(firstLine, needed, "", "X-Cost: 1"))
}

// Heads: the fields stand in any order, and others are let pass, however often.
func TestServeOtherFields(t *testing.T) {
	wantGood(t, headOf(firstLine, "X-Cost:3", "X-Tenant:u", "X-Org:b", "Host:h"), "ingest", "b", "u", 3)
	for _, line := range []string{
		"A:", "A: ", "a:b", "0: 1", "-:-", "9-9:\t", "A: a:b::", "A::", "A: ~!\"#$%&'()*+,-./0123456789:;<=>?@[\\]^_`{|}", "Content-Length: 5", "Transfer-Encoding: chunked", "X-Org-: B", "-X-Org: B", "XOrg: B", "X-Orgs: B", "Hosts:", "X-Costs: 0", "X-Cos: 0", "Cost: 0", "Tenant: T", "Org: O",
		"A: 1\r\nA: 2\r\na: 3", strings.Repeat("n", 300) + ": x", "A:\t a \t b \t",
	} {
		wantGood(t, headOf(firstLine, needed, line), "ingest", "acme", "t", 1)
		wantGood(t, headOf(firstLine, line, needed, "X-Cost: 5"), "ingest", "acme", "t", 5)
	}
}

// P8: a field is a name, a colon and a value; each byte by itself.
func TestServeFieldBytes(t *testing.T) {
	const letters = "abcdefghijklmnopqrstuvwxyzABCDEFGHIJKLMNOPQRSTUVWXYZ0123456789-"
	for b := range 256 {
		one := string([]byte{byte(b)})
		for _, line := range []string{one + ": x", "A" + one + ": x", "A" + one + "B: x"} {
			if strings.Contains(letters, one) || line == "A:: x" || line == "A:B: x" {
				wantGood(t, headOf(firstLine, needed, line), "ingest", "acme", "t", 1)
			} else {
				wantBad(t, headOf(firstLine, needed, line), headOf(firstLine, line, needed))
			}
		}
		for _, line := range []string{"A:" + one, "A: x" + one, "A: x" + one + "y"} {
			if b >= 32 && b <= 126 || b == 9 {
				wantGood(t, headOf(firstLine, needed, line), "ingest", "acme", "t", 1)
			} else {
				wantBad(t, headOf(firstLine, needed, line), headOf(firstLine, line, needed))
			}
		}
	}
}

// P8: fields that are none.
func TestServeFieldBad(t *testing.T) {
	for _, line := range []string{
		"x", "Host", ":", ": x", "::", " ", "\t", " A: x", "\tA: x", "A : x", "A\t: x", "A b: x", "A_b: x", "A.b: x", "é: x", "α: x", "A: é", "A: α", "A: \ufffd", "A: \u00a0", "A: \xc0\x80", "X\u2010Org: a", "Hoſt: x", "A=x",
	} {
		wantBad(t, headOf(firstLine, needed, line), headOf(firstLine, line, needed), headOf(firstLine, needed, "A: x", line, "A: x"))
	}
}

// P8: just one Host, one X-Org, one X-Tenant, and at most one X-Cost, in whatever case.
func TestServeHowOften(t *testing.T) {
	host, org, tenant, cost := "Host: h", "X-Org: acme", "X-Tenant: t", "X-Cost: 4"
	wantGood(t, headOf(firstLine, host, org, tenant), "ingest", "acme", "t", 1)
	wantGood(t, headOf(firstLine, host, org, tenant, cost), "ingest", "acme", "t", 4)
	wantBad(t, headOf(firstLine, org, tenant, cost), headOf(firstLine, host, tenant, cost), headOf(firstLine, host, org, cost), headOf(firstLine, cost), headOf(firstLine))
	for _, line := range []string{host, org, tenant, cost} {
		name, value, _ := strings.Cut(line, ": ")
		for _, again := range []string{line, strings.ToUpper(name) + ":" + value, strings.ToLower(name) + ":\t" + value, name + ":", name + ": !", name + ": 1"} {
			wantBad(t, headOf(firstLine, host, org, tenant, cost, again), headOf(firstLine, again, host, org, tenant, cost), headOf(firstLine, host, org, tenant, cost, again, again))
		}
	}
}

// P8: the value of Host is not empty.
func TestServeHost(t *testing.T) {
	for _, host := range []string{"h", " h", "example.org:8080", "a b", "~", "\t:\t", "[::1]", "H\t"} {
		wantGood(t, headOf(firstLine, "Host:"+host, "X-Org: acme", "X-Tenant: t"), "ingest", "acme", "t", 1)
	}
	for _, host := range []string{"", " ", "\t", " \t \t", "é", "\x7f", "h\x00", "h\xff"} {
		wantBad(t, headOf(firstLine, "Host:"+host, "X-Org: acme", "X-Tenant: t"))
	}
}

// P8: names have 1 to 8 characters, here just of a to z, 0 to 9 and -.
func TestServeNames(t *testing.T) {
	for _, name := range []string{"a", "z", "0", "9", "-", "abcdefgh", "01234567", "--------", "a-0", "host", "ingest"} {
		wantGood(t, headOf(firstLine, "Host: h", "X-Org: "+name, "X-Tenant: t"), "ingest", name, "t", 1)
		wantGood(t, headOf(firstLine, "Host: h", "X-Org: acme", "X-Tenant: "+name), "ingest", "acme", name, 1)
	}
	for _, name := range append([]string{"", " ", "\t", "α", "ω", "aα", "αβγδεζηθ", "abcdefgα", "Acme", "aC", "012345678", "a\tb", "a,b", "a.b", "\"a\"", "é", "a a"}, noNames...) {
		if strings.Trim(name, " ") == "a" || len(name) > 300 {
			continue // blanks around a value are not part of it
		}
		wantBad(t, headOf(firstLine, "Host: h", "X-Org: "+name, "X-Tenant: t"), headOf(firstLine, "Host: h", "X-Org: acme", "X-Tenant: "+name))
	}
	for b := range 256 {
		one := string([]byte{byte(b)})
		if strings.Contains("abcdefghijklmnopqrstuvwxyz0123456789-", one) {
			wantGood(t, headOf(firstLine, "Host: h", "X-Org:x"+one+"y", "X-Tenant:"+one), "ingest", "x"+one+"y", one, 1)
		} else {
			wantBad(t, headOf(firstLine, "Host: h", "X-Org:x"+one+"y", "X-Tenant: t"), headOf(firstLine, "Host: h", "X-Org: acme", "X-Tenant:"+one))
		}
	}
}

// P8: X-Cost has 1 to 7 digits, and is 1 to MaxCost; without one it is 1.
func TestServeCost(t *testing.T) {
	wantGood(t, headOf(firstLine, needed), "ingest", "acme", "t", 1)
	for _, c := range []struct {
		value string
		cost  int
	}{
		{"1", 1}, {"9", 9}, {"12", 12}, {"123", 123}, {"1234", 1234}, {"12345", 12345}, {"123456", 123456}, {"999999", 999999}, {"1000000", 1000000},
		{"01", 1}, {"007", 7}, {"0000001", 1}, {"0999999", 999999}, {"0100000", 100000}, {" 5", 5}, {"5 ", 5}, {"\t5\t \t", 5},
	} {
		wantGood(t, headOf(firstLine, needed, "X-Cost:"+c.value), "ingest", "acme", "t", c.cost)
	}
	for _, value := range []string{
		"", " ", "0", "00", "0000000", "1000001", "9999999", "00000001", "01000000", "10000000", "99999999999999999999", strings.Repeat("0", 300) + "1",
		"-1", "+1", "1.0", "1,0", "1e3", "0x1", "1_0", "x", "1x", "x1", "1 1", "1\t1", "1;", "١", "１", "²", "1\x00", "/", ":",
	} {
		wantBad(t, headOf(firstLine, needed, "X-Cost:"+value), headOf(firstLine, "X-Cost: "+value, needed))
	}
}

// Heads: blanks and tabs ahead of and behind a value are not part of it.
func TestServeBlanks(t *testing.T) {
	blanks := []string{"", " ", "\t", "  ", "\t\t", " \t ", "\t \t", strings.Repeat(" ", 40)}
	for _, ahead := range blanks {
		for _, behind := range blanks {
			wantGood(t, headOf(firstLine, "Host:"+ahead+"h"+behind, "X-Org:"+ahead+"abcdefgh"+behind, "X-Tenant:"+ahead+"-"+behind, "X-Cost:"+ahead+"0000003"+behind), "ingest", "abcdefgh", "-", 3)
		}
	}
	for _, other := range []string{"\v", "\f", "\u00a0", "\u0085", "\x00", "\r", "\n", "\u2003"} {
		wantBad(t, headOf(firstLine, "Host: h", "X-Org:"+other+"a", "X-Tenant: t"), headOf(firstLine, "Host: h", "X-Org: a", "X-Tenant: t"+other))
	}
}

// Heads: names of fields are the same whatever their case; all else is not.
func TestServeCase(t *testing.T) {
	for _, turn := range []func(string) string{strings.ToLower, strings.ToUpper, strings.ToTitle, func(name string) string { return name[:1] + strings.ToUpper(name[1:]) }, func(name string) string { return strings.ToLower(name[:3]) + strings.ToUpper(name[3:]) }} {
		wantGood(t, headOf(firstLine, turn("Host")+": H", turn("X-Org")+": a", turn("X-Tenant")+": b", turn("X-Cost")+": 6"), "ingest", "a", "b", 6)
	}
	wantBad(t, headOf(strings.ToLower(firstLine), needed), headOf(strings.ToUpper(firstLine), needed), strings.ToUpper(headOf(firstLine, needed)))
}

// P8: heads that are not good charge nothing, and those beside them are answered as if they were not there.
func TestServeBadBesideGood(t *testing.T) {
	s := made(t, example)
	good := headOf(firstLine, needed, "X-Cost: 6")
	long := padded(good, 501)
	wantServe(t, s, []string{"", good, "x", long, good, good + "x", long}, text400, text204, text400, text413, text429(1), text400, text413)
	wantLevel(t, s, "ingest", "acme", "t", 6000000000)
	wantLevel(t, s, "ingest", "acme", "", 6000000000)
	wantSweep(t, s, 2)
	wantNow(t, s, 0)
}

// P2: the list that is handed in is not written into and not kept, nor is the memory of its heads.
func TestHeadsAreNotKept(t *testing.T) {
	s := made(t, example)
	text := headOf(firstLine, needed, "X-Cost: 2")
	for range 2 {
		memory := []byte(text)
		heads := make([]string, 3, 8)
		heads[0], heads[1], heads[2] = unsafe.String(&memory[0], len(memory)), "x", strings.Repeat("x", 501)
		given := slices.Clone(heads[:8])
		got := s.Serve(heads...)
		if string(memory) != text || !slices.Equal(heads[:8], given) {
			t.Error("Serve wrote into its argument")
		}
		clear(memory)
		clear(heads[:8])
		if !slices.Equal(got, []string{text204, text400, text413}) {
			t.Errorf("Serve = %q", got)
		}
	}
	wantLevel(t, s, "ingest", "acme", "t", 4000000000)
	wantLevel(t, s, "ingest", "acme", "", 4000000000)
	wantSweep(t, s, 2)
	wantServe(t, s, []string{text}, text204)
}

// P2: what comes out is new memory, spare room too.
func TestServeIsNewMemory(t *testing.T) {
	s := made(t, example)
	fill(t, s, 64)
	heads := []string{"x", strings.Repeat("x", 501), headFor(api.Request{Class: "ingest", Org: "o0", Tenant: "t", Cost: 1}), headFor(api.Request{Class: "ingest", Org: "o1", Tenant: "t", Cost: 10}), headFor(api.Request{Class: "ingest", Org: "new", Tenant: "t", Cost: 1})}
	heads = append(heads, heads...)
	want := []string{text400, text413, text204, text429(1), text503}
	want = append(want, want...)
	first := s.Serve(heads...)
	if !slices.Equal(first, want) {
		t.Fatalf("Serve = %q, want %q", first, want)
	}
	second := s.Serve(heads...)
	seen := map[*byte]bool{}
	for _, text := range slices.Concat(first, second, heads) {
		if at := unsafe.StringData(text); seen[at] && !slices.Contains(heads, text) {
			t.Errorf("%q shares memory", text)
		} else {
			seen[at] = true
		}
	}
	for i := range first {
		clear(unsafe.Slice(unsafe.StringData(first[i]), len(first[i])))
	}
	clear(first[:cap(first)])
	if !slices.Equal(second, want) {
		t.Errorf("one answer is written into, another is %q", second)
	}
	wantServe(t, s, heads, want...)
}

// P2: heads are decided by the sluice that is asked, and by no other.
func TestServeSluicesAreApart(t *testing.T) {
	a, b := made(t, example), made(t, example)
	head := headOf(firstLine, needed, "X-Cost: 9")
	wantServe(t, a, []string{head, head}, text204, text429(3)) // 9 and 9 are 6 above 12, by 2
	wantSweep(t, b, 0)
	wantServe(t, b, []string{head}, text204)
	tick(t, a, 900000000)
	wantLevel(t, b, "ingest", "acme", "t", 9000000000)
}

// Calls that come at once are decided each as a whole: one of them has all that there is.
func TestServeCallsAtOnce(t *testing.T) {
	for range 20 {
		s := made(t, "default org ingest 1 50\ndefault org query 1 1\ndefault tenant ingest 1 50\ndefault tenant query 1 1\n")
		heads := slices.Repeat([]string{headOf(firstLine, needed)}, 50)
		through := make([]int, 6)
		var group sync.WaitGroup
		for i := range through {
			group.Go(func() {
				for _, text := range s.Serve(heads...) {
					if text == text204 {
						through[i]++
					}
				}
			})
		}
		group.Wait()
		slices.Sort(through)
		if !slices.Equal(through, []int{0, 0, 0, 0, 0, 50}) {
			t.Errorf("calls at once let through %v", through)
		}
	}
}
