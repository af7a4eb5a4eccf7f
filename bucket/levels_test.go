package bucket

import (
	"maps"
	"testing"
	"unsafe"

	"sluice/api"
	"sluice/words"
)

var (
	org    = Key{Class: words.Ingest, Org: "a"}
	tenant = Key{Class: words.Ingest, Org: "a", Tenant: "t"}
)

// of tells the same limit of every organisation, and another one of every tenant.
func of(ofOrg, ofTenant api.Limit) func(Key) api.Limit {
	return func(k Key) api.Limit {
		if k.Tenant == "" {
			return ofOrg
		}
		return ofTenant
	}
}

func TestOrganisation(t *testing.T) {
	query := Key{Class: words.Query, Org: "b", Tenant: "u"}
	if got := query.Organisation(); got != (Key{Class: words.Query, Org: "b"}) {
		t.Errorf("Organisation() = %v", got)
	}
	if got := org.Organisation(); got != org {
		t.Errorf("Organisation() = %v", got)
	}
}

func TestAfter(t *testing.T) {
	limit := of(api.Limit{Rate: 2, Burst: 1}, api.Limit{Rate: 5, Burst: 1})
	for _, c := range []struct {
		levels Levels
		n      int
		want   Levels
	}{
		{Levels{}, 0, Levels{}},
		{Levels{}, 7, Levels{}},
		{Levels{org: 10, tenant: 10}, 0, Levels{org: 10, tenant: 10}},
		{Levels{org: 10, tenant: 10}, 1, Levels{org: 8, tenant: 5}},
		{Levels{org: 10, tenant: 10}, 2, Levels{org: 6}},
		{Levels{org: 9, tenant: 11}, 2, Levels{org: 5, tenant: 1}},
		{Levels{org: 9, tenant: 11}, 4, Levels{org: 1}},
		{Levels{org: 9, tenant: 11}, 5, Levels{}},
		{Levels{org: 1000000000000000}, api.MaxTime, Levels{org: 998000000000000}},
	} {
		before := maps.Clone(c.levels)
		if got := c.levels.After(c.n, limit); !maps.Equal(got, c.want) {
			t.Errorf("%v.After(%d) = %v, want %v", c.levels, c.n, got, c.want)
		}
		if !maps.Equal(c.levels, before) {
			t.Errorf("After changes the levels from %v to %v", before, c.levels)
		}
	}
}

// The greatest fall of all does not wrap round.
func TestAfterTheLongestTime(t *testing.T) {
	most := api.Limit{Rate: api.MaxRate, Burst: api.MaxBurst}
	if got := (Levels{org: 1, tenant: api.MaxBurst * parts}).After(api.MaxTime, of(most, most)); len(got) != 0 {
		t.Errorf("After = %v", got)
	}
	least := api.Limit{Rate: 1, Burst: api.MaxBurst}
	if got := (Levels{tenant: api.MaxBurst * parts}).After(api.MaxTime, of(most, least)); got[tenant] != 999000000000000 {
		t.Errorf("After = %v", got)
	}
}

func TestAdmitChargesBothOrNeither(t *testing.T) {
	limit := of(api.Limit{Rate: 3, Burst: 5}, api.Limit{Rate: 7, Burst: 4})
	levels := Levels{}
	for _, c := range []struct {
		tenant Key
		cost   int
		want   api.Answer
		after  Levels
	}{
		{tenant, 5, api.Answer{Code: 413}, Levels{}},
		{tenant, 4, api.Answer{Code: 204}, Levels{org: 4 * parts, tenant: 4 * parts}},
		{tenant, 1, api.Answer{Code: 429, Wait: 142857143, Retry: 1}, Levels{org: 4 * parts, tenant: 4 * parts}},
		{Key{words.Ingest, "a", "u"}, 2, api.Answer{Code: 429, Wait: 333333334, Retry: 1}, Levels{org: 4 * parts, tenant: 4 * parts}},
		{Key{words.Ingest, "a", "u"}, 1, api.Answer{Code: 204}, Levels{org: 5 * parts, tenant: 4 * parts, {words.Ingest, "a", "u"}: parts}},
	} {
		if got := levels.Admit(c.tenant, c.cost, limit); got != c.want {
			t.Errorf("Admit(%v, %d) = %v, want %v", c.tenant, c.cost, got, c.want)
		}
		if !maps.Equal(levels, c.after) {
			t.Errorf("behind Admit(%v, %d): %v, want %v", c.tenant, c.cost, levels, c.after)
		}
	}
}

// A charge stores no memory of the key it is given, be the bucket empty or not.
func TestChargeKeepsNoName(t *testing.T) {
	levels := Levels{}
	for range 2 {
		memory := []byte("at")
		levels.charge(Key{words.Ingest, unsafe.String(&memory[0], 1), unsafe.String(&memory[1], 1)}, 1)
		clear(memory)
	}
	if !maps.Equal(levels, Levels{tenant: 2 * parts}) {
		t.Errorf("two charges: %v", levels)
	}
}

func TestRoundUp(t *testing.T) {
	for _, c := range []struct{ n, by, want int }{
		{0, 1, 0}, {0, 7, 0}, {1, 1, 1}, {1, 7, 1}, {6, 7, 1}, {7, 7, 1}, {8, 7, 2}, {14, 7, 2}, {15, 7, 3},
		{1000000000000000, 3, 333333333333334}, {1000000000000000, 1000000, 1000000000},
	} {
		if got := roundUp(c.n, c.by); got != c.want {
			t.Errorf("roundUp(%d, %d) = %d, want %d", c.n, c.by, got, c.want)
		}
	}
}
