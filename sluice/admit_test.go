package sluice_test

import (
	"math"
	"strconv"
	"testing"
	"unsafe"

	"sluice/api"
	"sluice/sluice"
)

// The document's example, step by step.
func TestExample(t *testing.T) {
	s := made(t, example)
	wantThrough(t, s, "ingest", "acme", "t1", 10)
	wantLevel(t, s, "ingest", "acme", "t1", 10000000000)
	wantLevel(t, s, "ingest", "acme", "", 10000000000)
	wantWait(t, s, "ingest", "acme", "t1", 1, 200000000, 1)
	wantWait(t, s, "ingest", "acme", "t2", 3, 500000000, 1)
	wantAdmit(t, s, "ingest", "acme", "t1", 13, api.Answer{Code: 413})
	wantAdmit(t, s, "ingest", "acme", "t2", 13, api.Answer{Code: 413})
	tick(t, s, 500000000)
	wantLevel(t, s, "ingest", "acme", "t1", 7500000000)
	wantLevel(t, s, "ingest", "acme", "", 9000000000)
	wantThrough(t, s, "ingest", "acme", "t2", 3)
	wantLevel(t, s, "ingest", "acme", "t2", 3000000000)
	wantLevel(t, s, "ingest", "acme", "", 12000000000)
	wantLevel(t, s, "ingest", "acme", "t1", 7500000000)
}

// P6: a request is charged to the tenant's bucket and to the organisation's, of its class, and to no other.
func TestAdmitChargesTwoBuckets(t *testing.T) {
	s := made(t, example)
	wantThrough(t, s, "ingest", "a", "t", 3)
	wantThrough(t, s, "ingest", "a", "u", 4)
	wantThrough(t, s, "query", "a", "t", 5)
	wantThrough(t, s, "ingest", "b", "t", 6)
	wantThrough(t, s, "ingest", "b", "t", 1)
	wantThrough(t, s, "query", "t", "a", 2)
	wantThrough(t, s, "query", "α", "ω", 9)
	for _, c := range []struct {
		class, org, tenant string
		cost               int
	}{
		{"ingest", "a", "", 7}, {"ingest", "a", "t", 3}, {"ingest", "a", "u", 4}, {"ingest", "a", "a", 0},
		{"query", "a", "", 5}, {"query", "a", "t", 5}, {"query", "a", "u", 0},
		{"ingest", "b", "", 7}, {"ingest", "b", "t", 7}, {"ingest", "b", "u", 0}, {"query", "b", "t", 0}, {"query", "b", "", 0},
		{"query", "t", "", 2}, {"query", "t", "a", 2}, {"ingest", "t", "", 0}, {"ingest", "t", "a", 0},
		{"query", "α", "", 9}, {"query", "α", "ω", 9}, {"query", "ω", "α", 0}, {"query", "ω", "", 0},
	} {
		wantLevel(t, s, c.class, c.org, c.tenant, c.cost*1000000000)
	}
	wantSweep(t, s, 11)
}

// P6: a tenant whose name is that of its organisation has a bucket of its own.
func TestAdmitTenantNamedAsItsOrganisation(t *testing.T) {
	s := made(t, example)
	wantThrough(t, s, "ingest", "a", "a", 10)
	wantThrough(t, s, "ingest", "a", "b", 10)
	wantLevel(t, s, "ingest", "a", "", 20000000000)
	wantLevel(t, s, "ingest", "a", "a", 10000000000)
	wantSweep(t, s, 3)
}

// Names that run together are still two names.
func TestAdmitNamesDoNotRunTogether(t *testing.T) {
	s := made(t, example)
	wantThrough(t, s, "ingest", "ab", "c", 1)
	wantThrough(t, s, "ingest", "a", "bc", 2)
	wantLevel(t, s, "ingest", "ab", "c", 1000000000)
	wantLevel(t, s, "ingest", "a", "bc", 2000000000)
	wantLevel(t, s, "ingest", "ab", "", 1000000000)
	wantLevel(t, s, "ingest", "a", "", 2000000000)
	wantSweep(t, s, 4)
}

// P6: the buckets run at their own limits, not at the default.
func TestAdmitOwnLimits(t *testing.T) {
	s := made(t, example+"tenant a t ingest 3 4\norg b query 1 2\n")
	wantAdmit(t, s, "ingest", "a", "t", 5, api.Answer{Code: 413})
	wantThrough(t, s, "ingest", "a", "u", 5)
	wantThrough(t, s, "query", "a", "t", 5)
	wantThrough(t, s, "ingest", "b", "t", 5)
	wantAdmit(t, s, "query", "b", "t", 3, api.Answer{Code: 413})
	wantThrough(t, s, "ingest", "a", "t", 4)
	wantThrough(t, s, "query", "b", "t", 2)
	tick(t, s, 10)
	wantLevel(t, s, "ingest", "a", "t", 3999999970)
	wantLevel(t, s, "ingest", "a", "u", 4999999950)
	wantLevel(t, s, "ingest", "a", "", 8999999900)
	wantLevel(t, s, "query", "b", "", 1999999990)
	wantLevel(t, s, "query", "b", "t", 1999999950)
	wantLevel(t, s, "ingest", "b", "", 4999999900)
}

// P6: a cost that is just the burst fits into an empty bucket; one above it never does.
func TestAdmitBurst(t *testing.T) {
	for _, c := range []struct{ org, tenant, least int }{
		{1, 1, 1}, {1, 2, 1}, {2, 1, 1}, {9, 9, 9}, {9, 10, 9}, {10, 9, 9}, {999999, 1000000, 999999}, {1000000, 999999, 999999},
	} {
		s := made(t, "default org query 1 "+strconv.Itoa(c.org)+"\ndefault tenant query 1 "+strconv.Itoa(c.tenant)+
			"\ndefault org ingest 1 1000000\ndefault tenant ingest 1 1000000\n")
		wantAdmit(t, s, "query", "a", "t", c.least+1, api.Answer{Code: 413})
		wantAdmit(t, s, "query", "a", "t", 1000000, api.Answer{Code: 413})
		wantSweep(t, s, 0)
		wantThrough(t, s, "query", "a", "t", c.least)
		wantAdmit(t, s, "query", "a", "t", c.least+1, api.Answer{Code: 413})
		wantWait(t, s, "query", "a", "t", c.least, c.least*1000000000, c.least)
		wantLevel(t, s, "query", "a", "t", c.least*1000000000)
		wantLevel(t, s, "query", "a", "", c.least*1000000000)
		wantThrough(t, s, "ingest", "a", "t", c.least+1)
	}
}

// P6: a cost fits, if the level and it together are not above the burst.
func TestAdmitFits(t *testing.T) {
	const text = "default org ingest 1 10\ndefault org query 1 1\ndefault tenant ingest 1 8\ndefault tenant query 1 1\n"
	s := made(t, text)
	wantThrough(t, s, "ingest", "a", "t", 5)
	wantWait(t, s, "ingest", "a", "t", 4, 1000000000, 1)
	wantThrough(t, s, "ingest", "a", "t", 3)
	wantWait(t, s, "ingest", "a", "t", 1, 1000000000, 1)
	wantWait(t, s, "ingest", "a", "u", 3, 1000000000, 1)
	wantThrough(t, s, "ingest", "a", "u", 2)
	wantWait(t, s, "ingest", "a", "v", 1, 1000000000, 1)
	wantThrough(t, s, "ingest", "b", "t", 8)
	wantLevel(t, s, "ingest", "a", "t", 8000000000)
	wantLevel(t, s, "ingest", "a", "u", 2000000000)
	wantLevel(t, s, "ingest", "a", "v", 0)
	wantLevel(t, s, "ingest", "a", "", 10000000000)
}

// P6: the costs 1 and MaxCost may be, the ones beside them may not.
func TestAdmitCost(t *testing.T) {
	s := made(t, "default org ingest 1000000 1000000\ndefault org query 1 1\ndefault tenant ingest 1 1000000\ndefault tenant query 1 1")
	wantWrong(t, s, "ingest", "a", "t", 0, api.ErrRange)
	wantWrong(t, s, "ingest", "a", "t", 1000001, api.ErrRange)
	wantThrough(t, s, "ingest", "a", "t", 1)
	wantWait(t, s, "ingest", "a", "t", 1000000, 1000000000, 1)
	wantThrough(t, s, "ingest", "b", "t", 1000000)
	wantLevel(t, s, "ingest", "b", "", 1000000000000000)
	wantWait(t, s, "ingest", "b", "t", 1000000, 1000000000000000, 1000000)
	wantWait(t, s, "ingest", "b", "u", 1000000, 1000000000, 1)
	wantWait(t, s, "ingest", "b", "u", 1, 1000, 1)
	tick(t, s, 1000000000000)
	wantLevel(t, s, "ingest", "b", "", 0)
	wantLevel(t, s, "ingest", "b", "t", 999000000000000)
}

// P6: the Wait is that of the bucket that needs longer; what is begun of a nanosecond or of a second counts whole.
func TestAdmitWait(t *testing.T) {
	s := made(t, "default org ingest 3 100\ndefault org query 4 8\ndefault tenant ingest 7 100\ndefault tenant query 3 8\n")
	wantThrough(t, s, "ingest", "a", "t", 100)
	wantThrough(t, s, "query", "a", "t", 8)
	for _, c := range []struct {
		class, tenant     string
		cost, wait, retry int
	}{
		{"ingest", "t", 1, 333333334, 1}, {"ingest", "t", 2, 666666667, 1}, {"ingest", "t", 3, 1000000000, 1},
		{"ingest", "t", 4, 1333333334, 2}, {"ingest", "t", 6, 2000000000, 2}, {"ingest", "t", 7, 2333333334, 3},
		{"ingest", "t", 100, 33333333334, 34}, {"ingest", "u", 100, 33333333334, 34}, {"ingest", "u", 99, 33000000000, 33},
		{"query", "t", 1, 333333334, 1}, {"query", "t", 8, 2666666667, 3},
		{"query", "u", 1, 250000000, 1}, {"query", "u", 4, 1000000000, 1}, {"query", "u", 5, 1250000000, 2}, {"query", "u", 8, 2000000000, 2},
	} {
		wantWait(t, s, c.class, "a", c.tenant, c.cost, c.wait, c.retry)
	}
	wantSweep(t, s, 4)
}

// P6: a Wait of a second and one nanosecond is a Retry of 2.
func TestAdmitRetry(t *testing.T) {
	s := made(t, "default org ingest 1 10\ndefault org query 1 1\ndefault tenant ingest 1 10\ndefault tenant query 1 1\n")
	wantThrough(t, s, "ingest", "a", "t", 10)
	wantWait(t, s, "ingest", "a", "t", 2, 2000000000, 2)
	tick(t, s, 1)
	wantWait(t, s, "ingest", "a", "t", 2, 1999999999, 2)
	tick(t, s, 999999998)
	wantWait(t, s, "ingest", "a", "t", 2, 1000000001, 2)
	tick(t, s, 1)
	wantWait(t, s, "ingest", "a", "t", 2, 1000000000, 1)
	tick(t, s, 1)
	wantWait(t, s, "ingest", "a", "t", 2, 999999999, 1)
	tick(t, s, 999999998)
	wantWait(t, s, "ingest", "a", "t", 2, 1, 1)
	tick(t, s, 1)
	wantThrough(t, s, "ingest", "a", "t", 2)
	wantLevel(t, s, "ingest", "a", "t", 10000000000)
}

// P9: one nanosecond ahead of its Wait the same request still waits, at it not.
func TestAdmitAtItsWait(t *testing.T) {
	for _, rates := range [][2]string{{"1", "1"}, {"3", "7"}, {"7", "3"}, {"999999", "1000000"}, {"1000000", "13"}, {"600", "17"}} {
		for _, cost := range []int{1, 2, 17, 99, 100} {
			s := made(t, "default org ingest "+rates[0]+" 100\ndefault org query 1 1\ndefault tenant ingest "+rates[1]+" 100\ndefault tenant query 1 1\n")
			wantThrough(t, s, "ingest", "a", "t", 100)
			again := api.Request{Class: "ingest", Org: "a", Tenant: "t", Cost: cost}
			answer, e := s.Admit(again)
			if answer.Code != 429 || answer.Wait < 1 || e != api.OK {
				t.Fatalf("Admit(%v) = %+v, %d", again, answer, e)
			}
			tick(t, s, answer.Wait-1)
			wantWait(t, s, "ingest", "a", "t", cost, 1, 1)
			tick(t, s, 1)
			wantThrough(t, s, "ingest", "a", "t", cost)
		}
	}
}

// fill makes so many buckets that are not empty: each organisation has one tenant, and an odd one is a second tenant of the last.
func fill(t *testing.T, s *sluice.Sluice, count int) {
	t.Helper()
	for i := range count / 2 {
		wantThrough(t, s, "ingest", "o"+strconv.Itoa(i), "t", 1)
	}
	if count%2 > 0 {
		wantThrough(t, s, "ingest", "o"+strconv.Itoa(count/2-1), "odd", 1)
	}
	wantSweep(t, s, count)
}

// P6: 64 buckets may be other than empty, and not one more.
func TestAdmitNoRoom(t *testing.T) {
	none := api.Answer{Code: 503}
	s := made(t, example)
	fill(t, s, 64)
	wantAdmit(t, s, "ingest", "new", "t", 1, none)  // would be two more
	wantAdmit(t, s, "ingest", "o0", "new", 1, none) // would be one more
	wantAdmit(t, s, "query", "o0", "t", 1, none)
	wantThrough(t, s, "ingest", "o0", "t", 1) // no more
	wantSweep(t, s, 64)
	wantLevel(t, s, "ingest", "o0", "", 2000000000)
	wantLevel(t, s, "ingest", "o0", "new", 0)
	wantLevel(t, s, "ingest", "new", "", 0)
	wantLevel(t, s, "ingest", "new", "t", 0)

	s = made(t, example)
	fill(t, s, 63)
	wantAdmit(t, s, "ingest", "new", "t", 1, none) // the 64th and a 65th
	wantSweep(t, s, 63)
	wantThrough(t, s, "ingest", "o0", "new", 1) // the 64th
	wantSweep(t, s, 64)
	wantAdmit(t, s, "ingest", "o0", "more", 1, none)

	s = made(t, example)
	fill(t, s, 62)
	wantThrough(t, s, "query", "new", "t", 1) // the 63rd and the 64th
	wantSweep(t, s, 64)
	wantAdmit(t, s, "query", "new", "u", 1, none)
}

// P6: a tenant's bucket that is not empty, of an organisation's that is, is one more.
func TestAdmitNoRoomForTheOrganisation(t *testing.T) {
	s := made(t, example)
	fill(t, s, 64)
	wantThrough(t, s, "ingest", "o0", "t", 1)
	tick(t, s, 100000000) // all the organisations' but o0's are empty
	wantSweep(t, s, 33)
	for i := range 15 {
		wantThrough(t, s, "query", "p"+strconv.Itoa(i), "t", 1)
	}
	wantThrough(t, s, "ingest", "o0", "u", 1)
	wantSweep(t, s, 64)
	wantAdmit(t, s, "ingest", "o1", "t", 1, api.Answer{Code: 503})
	wantLevel(t, s, "ingest", "o1", "t", 500000000)
	wantLevel(t, s, "ingest", "o1", "", 0)
	wantThrough(t, s, "ingest", "o0", "u", 1)
}

// P6: buckets that have run dry give room again, those of one nanosecond ahead do not.
func TestAdmitRoomAgain(t *testing.T) {
	s := made(t, "default org ingest 5 10\ndefault org query 1 1\ndefault tenant ingest 5 10\ndefault tenant query 1 1\n")
	fill(t, s, 64)
	tick(t, s, 199999999)
	wantSweep(t, s, 64)
	wantAdmit(t, s, "ingest", "new", "t", 1, api.Answer{Code: 503})
	tick(t, s, 1)
	wantSweep(t, s, 0)
	wantThrough(t, s, "ingest", "new", "t", 1)
	wantSweep(t, s, 2)
	fill(t, made(t, example), 64)
	for i := range 31 {
		wantThrough(t, s, "ingest", "n"+strconv.Itoa(i), "t", 1)
	}
	wantSweep(t, s, 64)
	wantAdmit(t, s, "ingest", "more", "t", 1, api.Answer{Code: 503})
}

// P6: 413 goes ahead of 503, and 503 ahead of 204 and 429.
func TestAdmitWhichCodeGoesAhead(t *testing.T) {
	s := made(t, example+"org o1 ingest 1 3\n")
	fill(t, s, 64)
	wantAdmit(t, s, "ingest", "new", "t", 11, api.Answer{Code: 413})
	wantAdmit(t, s, "ingest", "o0", "new", 11, api.Answer{Code: 413})
	wantAdmit(t, s, "ingest", "o1", "new", 4, api.Answer{Code: 413})
	wantAdmit(t, s, "ingest", "o0", "t", 11, api.Answer{Code: 413}) // would be 429 else
	wantAdmit(t, s, "ingest", "o1", "new", 3, api.Answer{Code: 503})
	wantAdmit(t, s, "ingest", "o1", "new", 2, api.Answer{Code: 503})
	wantWait(t, s, "ingest", "o1", "t", 3, 1000000000, 1)
	wantThrough(t, s, "ingest", "o1", "t", 2)
	wantSweep(t, s, 64)
}

// P6: what is answered with 413, 429 or 503 charges nothing, neither of the two.
func TestAdmitRefusedChargesNothing(t *testing.T) {
	s := made(t, example)
	fill(t, s, 62)
	wantThrough(t, s, "ingest", "acme", "t", 10)
	for range 3 {
		wantAdmit(t, s, "ingest", "acme", "t", 11, api.Answer{Code: 413}) // the tenant's
		wantAdmit(t, s, "ingest", "acme", "t", 13, api.Answer{Code: 413}) // both
		wantWait(t, s, "ingest", "acme", "t", 2, 400000000, 1)            // the tenant's: the organisation's has room
		wantAdmit(t, s, "ingest", "acme", "u", 1, api.Answer{Code: 503})
		wantLevel(t, s, "ingest", "acme", "t", 10000000000)
		wantLevel(t, s, "ingest", "acme", "", 10000000000)
		wantLevel(t, s, "ingest", "acme", "u", 0)
		wantSweep(t, s, 64)
	}
	tick(t, s, 1000000000)
	wantSweep(t, s, 2)
	for range 3 {
		wantWait(t, s, "ingest", "acme", "u", 5, 500000000, 1) // the organisation's: the tenant's has room
		wantLevel(t, s, "ingest", "acme", "u", 0)
		wantLevel(t, s, "ingest", "acme", "", 8000000000)
		wantSweep(t, s, 2)
	}
	wantThrough(t, s, "ingest", "acme", "u", 4)
}

// P6: ErrName, if the class, the organisation or the tenant is none; it goes ahead of ErrRange; nothing is changed.
func TestAdmitErrName(t *testing.T) {
	s := made(t, example)
	wantThrough(t, s, "ingest", "a", "t", 1)
	for _, cost := range []int{1, 10, 11, 1000000, 0, -1, 1000001, math.MaxInt, math.MinInt} {
		for _, class := range []string{"", "Ingest", "ingest ", "other", "\xff"} {
			wantWrong(t, s, class, "a", "t", cost, api.ErrName)
		}
		wantWrong(t, s, "ingest", "", "t", cost, api.ErrName)
		wantWrong(t, s, "ingest", "a", "", cost, api.ErrName)
		wantWrong(t, s, "", "", "", cost, api.ErrName)
		for _, noName := range noNames {
			wantWrong(t, s, "ingest", noName, "t", cost, api.ErrName)
			wantWrong(t, s, "query", "a", noName, cost, api.ErrName)
		}
	}
	wantSweep(t, s, 2)
	wantLevel(t, s, "ingest", "a", "t", 1000000000)
	wantLevel(t, s, "ingest", "a", "", 1000000000)
}

// P6: ErrRange, if the cost is not 1 to MaxCost; it goes ahead of every code; nothing is changed.
func TestAdmitErrRange(t *testing.T) {
	s := made(t, example)
	fill(t, s, 64)
	for _, cost := range []int{0, -1, -10, -1000000, 1000001, 1 << 31, 1 << 32, 1<<32 + 1, 1 << 62, 1<<62 + 1, math.MaxInt, math.MinInt, math.MinInt + 1, math.MaxInt / 1000000000, math.MaxInt/1000000000 + 1, -math.MaxInt / 1000000000} {
		wantWrong(t, s, "ingest", "o0", "t", cost, api.ErrRange)
		wantWrong(t, s, "ingest", "new", "t", cost, api.ErrRange)
	}
	wantSweep(t, s, 64)
	wantLevel(t, s, "ingest", "o0", "t", 1000000000)
	wantLevel(t, s, "ingest", "new", "t", 0)
}

// P2: the names of a request are not kept, whether their buckets were empty or not.
func TestRequestIsNotKept(t *testing.T) {
	s := made(t, example)
	for range 2 {
		memory := []byte("ingestacmet1")
		admitFrom(t, s, memory)
		if string(memory) != "ingestacmet1" {
			t.Error("Admit wrote into its argument")
		}
		clear(memory)
	}
	wantLevel(t, s, "ingest", "acme", "t1", 4000000000)
	wantLevel(t, s, "ingest", "acme", "", 4000000000)
	wantSweep(t, s, 2)
}

func admitFrom(t *testing.T, s *sluice.Sluice, memory []byte) {
	t.Helper()
	text := unsafe.String(&memory[0], len(memory))
	wantThrough(t, s, text[:6], text[6:10], text[10:], 2)
}
