package sluice_test

import (
	"strings"
	"testing"

	"sluice/api"
)

// slow has other rates and lower bursts than example.
const slow = "default org ingest 1 3\ndefault org query 1 1\ndefault tenant ingest 4 2\ndefault tenant query 1 1\n"

// P4: until a Reload each bucket has fallen at its old rate, from then on it falls at the new one.
func TestReloadFallsAtOldRate(t *testing.T) {
	s := made(t, example)
	wantThrough(t, s, "ingest", "acme", "t1", 10)
	wantThrough(t, s, "ingest", "b", "t", 9)
	tick(t, s, 1000000000)
	reload(t, s, slow)
	for range 2 { // asking twice is as asking once
		wantLevel(t, s, "ingest", "acme", "", 8000000000)
		wantLevel(t, s, "ingest", "acme", "t1", 5000000000)
		wantLevel(t, s, "ingest", "b", "", 0)
		wantLevel(t, s, "ingest", "b", "t", 4000000000)
		wantSweep(t, s, 3)
	}
	tick(t, s, 3)
	wantLevel(t, s, "ingest", "acme", "", 7999999997)
	wantLevel(t, s, "ingest", "acme", "t1", 4999999988)
	reload(t, s, example)
	tick(t, s, 3)
	wantLevel(t, s, "ingest", "acme", "", 7999999991)
	wantLevel(t, s, "ingest", "acme", "t1", 4999999973)
	wantNow(t, s, 1000000006)
}

// P4: levels stay, also above the new burst.
func TestReloadKeepsLevels(t *testing.T) {
	s := made(t, example)
	wantThrough(t, s, "ingest", "acme", "t1", 10)
	reload(t, s, slow)
	wantLevel(t, s, "ingest", "acme", "", 10000000000)
	wantLevel(t, s, "ingest", "acme", "t1", 10000000000)
	wantSweep(t, s, 2)
	wantAdmit(t, s, "ingest", "acme", "t1", 3, api.Answer{Code: 413})
	wantAdmit(t, s, "ingest", "acme", "t2", 3, api.Answer{Code: 413})
	wantWait(t, s, "ingest", "acme", "t1", 2, 9000000000, 9) // the organisation's: 10 and 2 are 9 above 3, by 1
	wantWait(t, s, "ingest", "acme", "t2", 1, 8000000000, 8)
	wantThrough(t, s, "ingest", "b", "t", 2)
	tick(t, s, 8999999999)
	wantLevel(t, s, "ingest", "acme", "", 1000000001)
	wantWait(t, s, "ingest", "acme", "t1", 2, 1, 1)
	tick(t, s, 1)
	wantThrough(t, s, "ingest", "acme", "t1", 2)
	wantLevel(t, s, "ingest", "acme", "", 3000000000)
}

// P4: a tenant's own line comes, changes and goes.
func TestReloadOfOneBucket(t *testing.T) {
	s := made(t, example)
	wantThrough(t, s, "query", "a", "t", 5)
	wantThrough(t, s, "query", "a", "u", 5)
	reload(t, s, example+"tenant a t query 1000000 1\n")
	tick(t, s, 1000)
	wantLevel(t, s, "query", "a", "t", 4000000000)
	wantLevel(t, s, "query", "a", "u", 4999995000)
	wantLevel(t, s, "query", "a", "", 9999990000)
	reload(t, s, example+"tenant a t query 7 20\n")
	wantAdmit(t, s, "query", "a", "t", 11, api.Answer{Code: 429, Wait: 99999000, Retry: 1})
	tick(t, s, 1000)
	wantLevel(t, s, "query", "a", "t", 3999993000)
	reload(t, s, example)
	wantAdmit(t, s, "query", "a", "t", 11, api.Answer{Code: 413})
	tick(t, s, 1000)
	wantLevel(t, s, "query", "a", "t", 3999988000)
}

// P4: a new burst holds at once, also a greater one.
func TestReloadWidens(t *testing.T) {
	s := made(t, slow)
	wantThrough(t, s, "ingest", "a", "t", 2)
	wantAdmit(t, s, "ingest", "a", "t", 8, api.Answer{Code: 413})
	reload(t, s, example)
	wantThrough(t, s, "ingest", "a", "t", 8)
	wantWait(t, s, "ingest", "a", "t", 1, 200000000, 1)
}

// P4: a Reload neither fills a bucket nor empties one, so there is no more room behind it.
func TestReloadMakesNoRoom(t *testing.T) {
	s := made(t, example)
	fill(t, s, 64)
	reload(t, s, strings.ReplaceAll(example, " 5 10", " 1000000 1"))
	wantSweep(t, s, 64)
	wantAdmit(t, s, "ingest", "new", "t", 1, api.Answer{Code: 503})
	tick(t, s, 1000)
	wantSweep(t, s, 32)
	wantThrough(t, s, "ingest", "new", "t", 1)
}

// P1: a Reload that is refused changes nothing: no limit, no level, no time.
func TestReloadRefusedKeepsBuckets(t *testing.T) {
	s := made(t, example)
	wantThrough(t, s, "ingest", "acme", "t1", 10)
	tick(t, s, 10)
	for i, c := range []struct {
		text string
		e    api.Errno
		line int
	}{
		{strings.Repeat("#", 2001), api.ErrLimit, 0},
		{slow + "org acme ingest 1 0", api.ErrLine, 5},
		{slow + slow, api.ErrTwice, 5},
		{"org acme ingest 1 1\n", api.ErrMissing, 0},
	} {
		if e, line := s.Reload(c.text); e != c.e || line != c.line {
			t.Errorf("Reload(%q) = %d, %d, want %d, %d", c.text, e, line, c.e, c.line)
		}
		wantLevel(t, s, "ingest", "acme", "t1", 9999999950-5*i)
		wantLevel(t, s, "ingest", "acme", "", 9999999980-2*i)
		wantSweep(t, s, 2)
		wantNow(t, s, 10+i)
		tick(t, s, 1)
	}
	wantWait(t, s, "ingest", "acme", "t1", 1, 199999986, 1)
	wantThrough(t, s, "ingest", "acme", "t2", 2)
}
