package sluice_test

import (
	"strings"
	"testing"

	"sluice/api"
)

// P4: the limit is that of the line that speaks of the bucket, or the default.
func TestLimit(t *testing.T) {
	s := made(t, defaults+"org a ingest 100 200\norg b query 101 201\norg αω query 1000000 1\ntenant a t ingest 102 202\ntenant a a query 103 203\ntenant b t query 104 204\ntenant αω ωα ingest 1 1000000\n")
	for _, c := range []struct {
		class, org, tenant string
		rate, burst        int
	}{
		{"ingest", "a", "", 100, 200}, {"query", "a", "", 11, 21},
		{"ingest", "b", "", 10, 20}, {"query", "b", "", 101, 201},
		{"ingest", "c", "", 10, 20}, {"query", "c", "", 11, 21},
		{"query", "αω", "", 1000000, 1}, {"ingest", "αω", "", 10, 20},
		{"ingest", "a", "t", 102, 202}, {"query", "a", "t", 6, 11},
		{"ingest", "b", "t", 5, 10}, {"query", "b", "t", 104, 204},
		{"ingest", "a", "a", 5, 10}, {"query", "a", "a", 103, 203},
		{"ingest", "t", "a", 5, 10}, {"query", "t", "b", 6, 11},
		{"ingest", "αω", "ωα", 1, 1000000}, {"ingest", "ωα", "αω", 5, 10},
		{"ingest", "t", "", 10, 20}, {"query", "default", "org", 6, 11},
		{"query", "abcdefgh", strings.Repeat("ω", 8), 6, 11},
	} {
		wantLimit(t, s, c.class, c.org, c.tenant, c.rate, c.burst)
	}
}

// P4: ErrName and no limit, if the class, the organisation or the tenant is none.
func TestLimitErrName(t *testing.T) {
	s := made(t, canonical)
	for _, class := range []string{"", "Ingest", "ingest ", "other", "org", "ingest query", "\xff"} {
		wantErrName(t, s.Limit, class, "a", "")
		wantErrName(t, s.Limit, class, "a", "a")
		wantErrName(t, s.Limit, class, "A", "A")
	}
	for _, class := range []string{"ingest", "query"} {
		wantErrName(t, s.Limit, class, "", "")
		wantErrName(t, s.Limit, class, "", "a")
		for _, noName := range noNames {
			wantErrName(t, s.Limit, class, noName, "")
			wantErrName(t, s.Limit, class, noName, "a")
			wantErrName(t, s.Limit, class, "a", noName)
		}
	}
	wantLimits(t, s, canonical)
}

func wantErrName(t *testing.T, limit func(string, string, string) (api.Limit, api.Errno), class, org, tenant string) {
	t.Helper()
	if got, e := limit(class, org, tenant); got != (api.Limit{}) || e != api.ErrName {
		t.Errorf("Limit(%q, %q, %q) = %v, %d", class, org, tenant, got, e)
	}
}
