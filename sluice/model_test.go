package sluice_test

import (
	"math/rand/v2"
	"regexp"
	"sort"
	"strconv"
	"strings"
	"testing"

	"sluice/api"
	"sluice/sluice"
)

// The model reads a text of limits in another way than the program, so that the two can be held against each other.
var (
	modelLine = regexp.MustCompile(`^ *(default +org|default +tenant|org +[-a-z0-9α-ω]{1,8}|tenant +[-a-z0-9α-ω]{1,8} +[-a-z0-9α-ω]{1,8}) +(ingest|query) +([0-9]{1,7}) +([0-9]{1,7}) *$`)
	modelMute = regexp.MustCompile(`^ *(#.*)?$`)
	manyBlank = regexp.MustCompile(` +`)
)

type modelAnswer struct {
	e      api.Errno
	line   int
	text   string
	limits map[string]api.Limit // by the words ahead of the numbers
}

func model(text string) modelAnswer {
	if len(text) > 2000 {
		return modelAnswer{e: api.ErrLimit}
	}
	limits := map[string]api.Limit{}
	twin := 0
	for i, line := range strings.Split(text, "\n") {
		if modelMute.MatchString(line) {
			continue
		}
		parts := modelLine.FindStringSubmatch(line)
		if parts == nil {
			return modelAnswer{e: api.ErrLine, line: i + 1}
		}
		rate, _ := strconv.Atoi(parts[3])
		burst, _ := strconv.Atoi(parts[4])
		if rate < 1 || rate > 1000000 || burst < 1 || burst > 1000000 {
			return modelAnswer{e: api.ErrLine, line: i + 1}
		}
		about := manyBlank.ReplaceAllString(parts[1], " ") + " " + parts[2]
		if _, said := limits[about]; said && twin == 0 {
			twin = i + 1
		}
		limits[about] = api.Limit{Rate: rate, Burst: burst}
	}
	if twin > 0 {
		return modelAnswer{e: api.ErrTwice, line: twin}
	}
	for _, about := range []string{"default org ingest", "default org query", "default tenant ingest", "default tenant query"} {
		if _, said := limits[about]; !said {
			return modelAnswer{e: api.ErrMissing}
		}
	}
	return modelAnswer{text: modelText(limits), limits: limits}
}

// modelText leans on this: a blank is a lower byte than any of a name, and the kinds of lines are in the order of their letters.
func modelText(limits map[string]api.Limit) string {
	var abouts []string
	for about := range limits {
		abouts = append(abouts, about)
	}
	sort.Strings(abouts)
	var text string
	for _, about := range abouts {
		text += about + " " + strconv.Itoa(limits[about].Rate) + " " + strconv.Itoa(limits[about].Burst) + "\n"
	}
	return text
}

func (m modelAnswer) limit(class, org, tenant string) api.Limit {
	own, general := "org "+org, "default org"
	if tenant != "" {
		own, general = "tenant "+org+" "+tenant, "default tenant"
	}
	if limit, said := m.limits[own+" "+class]; said {
		return limit
	}
	return m.limits[general+" "+class]
}

func holdAgainstModel(t *testing.T, text string) {
	t.Helper()
	want := model(text)
	if want.e != api.OK {
		wantRefused(t, text, want.e, want.line)
		return
	}
	s := made(t, text)
	wantLimits(t, s, want.text)
	if len(want.text) <= 2000 {
		wantLimits(t, made(t, want.text), want.text)
	}
	for _, class := range []string{"ingest", "query"} {
		for _, org := range []string{"a", "b", "α"} {
			for _, tenant := range []string{"", "a", "b", "-"} {
				limit := want.limit(class, org, tenant)
				wantLimit(t, s, class, org, tenant, limit.Rate, limit.Burst)
			}
		}
	}
}

func pick(random *rand.Rand, words ...string) string {
	return words[random.IntN(len(words))]
}

// someText is mostly a good text; a few of its words are not.
func someText(random *rand.Rand) string {
	var lines []string
	for _, line := range strings.Split(strings.TrimSuffix(defaults, "\n"), "\n") {
		if random.IntN(40) > 0 {
			lines = append(lines, line)
		}
	}
	for range random.IntN(8) {
		lines = append(lines, someLine(random))
	}
	random.Shuffle(len(lines), func(i, j int) { lines[i], lines[j] = lines[j], lines[i] })
	return strings.Join(lines, "\n") + pick(random, "", "\n", "\n\n")
}

func someLine(random *rand.Rand) string {
	name := func() string {
		if random.IntN(60) == 0 {
			return pick(random, "A", "ϊ", "\xce", "abcdefghi", "", "#", "a\t")
		}
		return pick(random, "a", "b", "α", "-", "abcdefgh", "ωωωωωωωω", "0", "org", "zz", "a-b")
	}
	number := func() string {
		if random.IntN(60) == 0 {
			return pick(random, "0", "1000001", "00000001", "-1", "x", "", "1\r")
		}
		return pick(random, "1", "1000000", "0000007", "12", "090")
	}
	gap := pick(random, " ", " ", " ", "  ", "    ")
	class := pick(random, "ingest", "query")
	front := pick(random, "org"+gap+name(), "tenant"+gap+name()+gap+name())
	line := front + gap + class + gap + number() + gap + number()
	return pick(random, "", "", "", " ", "#", " # ") + line + pick(random, "", "", " ")
}

// P3, P4: texts of all sorts are read as the model reads them.
func TestModel(t *testing.T) {
	random := rand.New(rand.NewPCG(1, 2))
	seen := map[api.Errno]int{}
	for range 4000 {
		text := someText(random)
		seen[model(text).e]++
		holdAgainstModel(t, text)
	}
	for _, e := range []api.Errno{api.OK, api.ErrLine, api.ErrTwice, api.ErrMissing} {
		if seen[e] < 50 {
			t.Errorf("only %d texts with the answer %d", seen[e], e)
		}
	}
}

// P1: at any text and any names, the calls end and do not panic, and answer as the model does.
func FuzzLimits(f *testing.F) {
	for _, text := range []string{"", defaults, canonical, reversed(canonical), "#\n" + defaults + "org a ingest 0 1"} {
		f.Add(text, "ingest", "a", "b")
	}
	f.Add(defaults, "", "\xce", "ω\xff")
	f.Fuzz(func(t *testing.T, text, class, org, tenant string) {
		holdAgainstModel(t, text)
		s, _, _ := sluice.New(text)
		if s == nil {
			return
		}
		name := regexp.MustCompile(`\A[-a-z0-9α-ω]{1,8}\z`)
		good := (class == "ingest" || class == "query") && name.MatchString(org) && (tenant == "" || name.MatchString(tenant))
		limit, e := s.Limit(class, org, tenant)
		if good && (e != api.OK || limit != model(text).limit(class, org, tenant)) || !good && (e != api.ErrName || limit != api.Limit{}) {
			t.Errorf("Limit(%q, %q, %q) = %v, %d", class, org, tenant, limit, e)
		}
	})
}
