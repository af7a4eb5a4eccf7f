package sluice_test

import (
	"sync"
	"testing"

	"sluice/api"
	"sluice/sluice"
)

// P7: levels fall by the rate in each nanosecond, to 0 and not below.
func TestLevelFalls(t *testing.T) {
	s := made(t, "default org ingest 3 10\ndefault org query 1 1\ndefault tenant ingest 7 10\ndefault tenant query 1 1\n")
	wantThrough(t, s, "ingest", "a", "t", 1)
	for _, c := range []struct{ ticks, tenant, org, sweep int }{
		{0, 1000000000, 1000000000, 2},
		{1, 999999993, 999999997, 2},
		{1, 999999986, 999999994, 2},
		{142857140, 6, 571428574, 2},
		{1, 0, 571428571, 1}, // it would be 1 below 0
		{1, 0, 571428568, 1},
		{190476189, 0, 1, 1},
		{1, 0, 0, 0},
		{1, 0, 0, 0},
		{1000000000, 0, 0, 0},
	} {
		tick(t, s, c.ticks)
		wantLevel(t, s, "ingest", "a", "t", c.tenant)
		wantLevel(t, s, "ingest", "a", "", c.org)
		wantSweep(t, s, c.sweep)
	}
	// What would be below 0 is not saved up.
	wantThrough(t, s, "ingest", "a", "t", 10)
	wantLevel(t, s, "ingest", "a", "t", 10000000000)
	wantWait(t, s, "ingest", "a", "t", 1, 333333334, 1)
}

// P7: it is the same whether time goes by at once or in pieces.
func TestLevelFallsInPieces(t *testing.T) {
	whole, pieces := made(t, example), made(t, example)
	for _, s := range []*sluice.Sluice{whole, pieces} {
		wantThrough(t, s, "ingest", "acme", "t", 10)
		wantThrough(t, s, "query", "acme", "t", 1)
	}
	tick(t, whole, 1500000001)
	for range 3 {
		tick(t, pieces, 500000000)
		tick(t, pieces, 0)
	}
	tick(t, pieces, 1)
	for _, s := range []*sluice.Sluice{whole, pieces} {
		wantLevel(t, s, "ingest", "acme", "t", 2499999995)
		wantLevel(t, s, "ingest", "acme", "", 6999999998)
		wantLevel(t, s, "query", "acme", "t", 0)
		wantSweep(t, s, 2)
		wantNow(t, s, 1500000001)
	}
}

// P7: ErrName as Limit answers it, and no level.
func TestLevelErrName(t *testing.T) {
	s := made(t, example)
	wantThrough(t, s, "ingest", "a", "a", 1)
	wrong := [][3]string{{"", "a", "a"}, {"", "a", ""}, {"Ingest", "a", "a"}, {"ingest ", "a", "a"}, {"ingest", "", "a"}, {"ingest", "", ""}, {"", "", ""}}
	for _, noName := range noNames {
		wrong = append(wrong, [3]string{"ingest", noName, "a"}, [3]string{"ingest", noName, ""}, [3]string{"ingest", "a", noName}, [3]string{noName, "a", "a"})
	}
	for _, c := range wrong {
		if level, e := s.Level(c[0], c[1], c[2]); level != 0 || e != api.ErrName {
			t.Errorf("Level(%q) = %d, %d", c, level, e)
		}
	}
	wantLevel(t, s, "ingest", "a", "a", 1000000000)
	wantSweep(t, s, 2)
}

// P2: Level and Limit of a bucket make none; Level, Limit, Limits, Now and Sweep change nothing.
func TestAskingFillsNothing(t *testing.T) {
	s := made(t, example)
	fill(t, s, 63)
	for range 100 {
		wantLevel(t, s, "query", "o0", "t", 0)
		wantLevel(t, s, "query", "new", "", 0)
		wantLimit(t, s, "query", "new", "t", 5, 10)
		wantLimits(t, s, example)
		wantSweep(t, s, 63)
		wantNow(t, s, 0)
	}
	wantThrough(t, s, "ingest", "o0", "new", 1)
	wantLevel(t, s, "ingest", "o0", "", 2000000000)
}

// P2: the buckets and the time of two sluices are apart.
func TestBucketsAreApart(t *testing.T) {
	a, b := made(t, example), made(t, example)
	fill(t, a, 64)
	wantSweep(t, b, 0)
	wantThrough(t, b, "ingest", "o0", "t", 2)
	tick(t, a, 10)
	wantNow(t, b, 0)
	wantLevel(t, b, "ingest", "o0", "t", 2000000000)
	wantLevel(t, a, "ingest", "o0", "t", 999999950)
	wantLevel(t, a, "ingest", "o0", "", 999999900)
	wantSweep(t, b, 2)
}

// Calls that come at once are decided one behind the other: no more is let through than the burst.
func TestCallsAtOnce(t *testing.T) {
	s := made(t, "default org ingest 1 1000\ndefault org query 1 1\ndefault tenant ingest 1 700\ndefault tenant query 1 1\n")
	var group sync.WaitGroup
	for _, tenant := range []string{"t", "u", "v", "w"} {
		group.Go(func() { admitMany(t, s, tenant, 400) })
		group.Go(func() { askMany(t, s, tenant, 400) })
	}
	group.Wait()
	wantLevel(t, s, "ingest", "a", "", 1000000000000)
	wantWait(t, s, "ingest", "a", "t", 1, 1000000000, 1)
	wantNow(t, s, 0)
}

func admitMany(t *testing.T, s *sluice.Sluice, tenant string, count int) {
	for range count {
		answer, e := s.Admit(api.Request{Class: "ingest", Org: "a", Tenant: tenant, Cost: 1})
		if e != api.OK || answer.Code != 204 && answer.Code != 429 {
			t.Errorf("Admit = %+v, %d", answer, e)
		}
	}
}

func askMany(t *testing.T, s *sluice.Sluice, tenant string, count int) {
	for range count {
		if level, e := s.Level("ingest", "a", tenant); e != api.OK || level > 400000000000 {
			t.Errorf("Level = %d, %d", level, e)
		}
		if s.Sweep() > 5 || s.Now() != 0 || s.Tick(0) != api.OK {
			t.Error("more buckets or time than there is")
		}
	}
}
