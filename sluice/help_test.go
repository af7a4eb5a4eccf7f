package sluice_test

import (
	"testing"

	"sluice/api"
	"sluice/sluice"
)

// defaults are the four lines that must be said, as the canonical text has them.
const defaults = "default org ingest 10 20\ndefault org query 11 21\ndefault tenant ingest 5 10\ndefault tenant query 6 11\n"

// behind is the number of a line that stands behind the defaults.
const behind = 5

func made(t *testing.T, limits string) *sluice.Sluice {
	t.Helper()
	s, e, line := sluice.New(limits)
	if s == nil || e != api.OK || line != 0 {
		t.Fatalf("New(%q) = %v, %d, %d", limits, s != nil, e, line)
	}
	return s
}

func wantLimits(t *testing.T, s *sluice.Sluice, want string) {
	t.Helper()
	if got := s.Limits(); got != want {
		t.Errorf("Limits() = %q, want %q", got, want)
	}
}

func wantLimit(t *testing.T, s *sluice.Sluice, class, org, tenant string, rate, burst int) {
	t.Helper()
	want := api.Limit{Rate: rate, Burst: burst}
	if got, e := s.Limit(class, org, tenant); got != want || e != api.OK {
		t.Errorf("Limit(%q, %q, %q) = %v, %d, want %v", class, org, tenant, got, e, want)
	}
}

// wantRefused holds New and Reload to the same error, and Reload to changing nothing.
func wantRefused(t *testing.T, limits string, e api.Errno, line int) {
	t.Helper()
	if s, gotError, gotLine := sluice.New(limits); s != nil || gotError != e || gotLine != line {
		t.Errorf("New(%q) = %v, %d, %d, want %d, %d", limits, s != nil, gotError, gotLine, e, line)
	}
	s := made(t, defaults+"org kept ingest 7 8\n")
	if gotError, gotLine := s.Reload(limits); gotError != e || gotLine != line {
		t.Errorf("Reload(%q) = %d, %d, want %d, %d", limits, gotError, gotLine, e, line)
	}
	wantLimits(t, s, defaults+"org kept ingest 7 8\n")
	wantLimit(t, s, "ingest", "kept", "", 7, 8)
	wantLimit(t, s, "query", "kept", "", 11, 21)
}
