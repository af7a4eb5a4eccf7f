package sluice_test

import (
	"strings"
	"testing"

	"sluice/api"
	"sluice/sluice"
)

// defaults are the four lines that must be said, as the canonical text has them.
const defaults = "default org ingest 10 20\ndefault org query 11 21\ndefault tenant ingest 5 10\ndefault tenant query 6 11\n"

// example is the document's, as the canonical text has it.
const example = "default org ingest 10 20\ndefault org query 10 20\ndefault tenant ingest 5 10\ndefault tenant query 5 10\norg acme ingest 2 12\n"

// noNames name no organisation and no tenant, and mean no class; nor does "".
var noNames = []string{"A", "abcdefghi", "αβγδεζηθι", "a b", " a", "a ", "a\n", "ϊ", "ΰ", "\xce", "a\xce", "\xff", "\ufffd", "a_b", "#", strings.Repeat("a", 5000)}

// behind is the number of a line that stands behind the defaults.
const behind = 5

func made(t *testing.T, limits string) *sluice.Sluice {
	t.Helper()
	s, e, line := sluice.New(limits)
	if s == nil || e != api.OK || line != 0 {
		t.Fatalf("New(%q) = %v, %d, %d", limits, s != nil, e, line)
	}
	return s
}

func wantLimits(t *testing.T, s *sluice.Sluice, want string) {
	t.Helper()
	if got := s.Limits(); got != want {
		t.Errorf("Limits() = %q, want %q", got, want)
	}
}

func wantLimit(t *testing.T, s *sluice.Sluice, class, org, tenant string, rate, burst int) {
	t.Helper()
	want := api.Limit{Rate: rate, Burst: burst}
	if got, e := s.Limit(class, org, tenant); got != want || e != api.OK {
		t.Errorf("Limit(%q, %q, %q) = %v, %d, want %v", class, org, tenant, got, e, want)
	}
}

// wantRefused holds New and Reload to the same error, and Reload to changing nothing.
func wantRefused(t *testing.T, limits string, e api.Errno, line int) {
	t.Helper()
	if s, gotError, gotLine := sluice.New(limits); s != nil || gotError != e || gotLine != line {
		t.Errorf("New(%q) = %v, %d, %d, want %d, %d", limits, s != nil, gotError, gotLine, e, line)
	}
	s := made(t, defaults+"org kept ingest 7 8\n")
	if gotError, gotLine := s.Reload(limits); gotError != e || gotLine != line {
		t.Errorf("Reload(%q) = %d, %d, want %d, %d", limits, gotError, gotLine, e, line)
	}
	wantLimits(t, s, defaults+"org kept ingest 7 8\n")
	wantLimit(t, s, "ingest", "kept", "", 7, 8)
	wantLimit(t, s, "query", "kept", "", 11, 21)
}

// wantAdmit holds Admit to an answer without an error.
func wantAdmit(t *testing.T, s *sluice.Sluice, class, org, tenant string, cost int, want api.Answer) {
	t.Helper()
	r := api.Request{Class: class, Org: org, Tenant: tenant, Cost: cost}
	if got, e := s.Admit(r); got != want || e != api.OK {
		t.Errorf("Admit(%#v) = %+v, %d, want %+v", r, got, e, want)
	}
}

// wantThrough holds Admit to letting through.
func wantThrough(t *testing.T, s *sluice.Sluice, class, org, tenant string, cost int) {
	t.Helper()
	wantAdmit(t, s, class, org, tenant, cost, api.Answer{Code: 204})
}

// wantWait holds Admit to a time to come again.
func wantWait(t *testing.T, s *sluice.Sluice, class, org, tenant string, cost, wait, retry int) {
	t.Helper()
	wantAdmit(t, s, class, org, tenant, cost, api.Answer{Code: 429, Wait: wait, Retry: retry})
}

// wantWrong holds Admit to an error, and to an answer of noughts.
func wantWrong(t *testing.T, s *sluice.Sluice, class, org, tenant string, cost int, want api.Errno) {
	t.Helper()
	r := api.Request{Class: class, Org: org, Tenant: tenant, Cost: cost}
	if got, e := s.Admit(r); got != (api.Answer{}) || e != want {
		t.Errorf("Admit(%#v) = %+v, %d, want error %d", r, got, e, want)
	}
}

func wantTick(t *testing.T, s *sluice.Sluice, n int, want api.Errno) {
	t.Helper()
	if e := s.Tick(n); e != want {
		t.Errorf("Tick(%d) = %d, want %d", n, e, want)
	}
}

func tick(t *testing.T, s *sluice.Sluice, n int) {
	t.Helper()
	wantTick(t, s, n, api.OK)
}

func wantNow(t *testing.T, s *sluice.Sluice, want int) {
	t.Helper()
	if got := s.Now(); got != want {
		t.Errorf("Now() = %d, want %d", got, want)
	}
}

func wantLevel(t *testing.T, s *sluice.Sluice, class, org, tenant string, want int) {
	t.Helper()
	if got, e := s.Level(class, org, tenant); got != want || e != api.OK {
		t.Errorf("Level(%q, %q, %q) = %d, %d, want %d", class, org, tenant, got, e, want)
	}
}

func wantSweep(t *testing.T, s *sluice.Sluice, want int) {
	t.Helper()
	if got := s.Sweep(); got != want {
		t.Errorf("Sweep() = %d, want %d", got, want)
	}
}

func reload(t *testing.T, s *sluice.Sluice, limits string) {
	t.Helper()
	if e, line := s.Reload(limits); e != api.OK || line != 0 {
		t.Fatalf("Reload(%q) = %d, %d", limits, e, line)
	}
}
