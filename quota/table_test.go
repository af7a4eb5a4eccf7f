package quota

import (
	"sync"
	"testing"

	"sluice/api"
	"sluice/bucket"
	"sluice/words"
)

const text = "default org ingest 1 2\ndefault org query 3 4\ndefault tenant ingest 5 6\ndefault tenant query 7 8\norg a ingest 9 10\ntenant a b query 11 12\n"

func read(t *testing.T) *Table {
	t.Helper()
	table, e, line := Read(text)
	if table == nil || e != api.OK || line != 0 {
		t.Fatalf("Read = %v, %d, %d", table != nil, e, line)
	}
	return table
}

func TestTextIsMadeOnce(t *testing.T) {
	table := read(t)
	if table.text != "" {
		t.Error("the text is made ahead of being asked for")
	}
	if got := table.Text(); got != text {
		t.Errorf("Text() = %q", got)
	}
	clear(table.said)
	if got := table.Text(); got != text {
		t.Errorf("the text is made again: %q", got)
	}
}

func TestTextAskedByMany(t *testing.T) {
	table := read(t)
	var group sync.WaitGroup
	for range 8 {
		group.Go(func() {
			if got := table.Text(); got != text {
				t.Errorf("Text() = %q", got)
			}
		})
	}
	group.Wait()
}

func TestReadRefuses(t *testing.T) {
	for _, c := range []struct {
		text string
		e    api.Errno
		line int
	}{{text + "x", api.ErrLine, 7}, {text + text, api.ErrTwice, 7}, {"", api.ErrMissing, 0}, {string(make([]byte, 2001)), api.ErrLimit, 0}} {
		if table, e, line := Read(c.text); table != nil || e != c.e || line != c.line {
			t.Errorf("Read(%q) = %v, %d, %d", c.text, table != nil, e, line)
		}
	}
}

func TestTableLimit(t *testing.T) {
	table := read(t)
	for _, c := range []struct {
		class       words.Class
		org, tenant string
		want        api.Limit
	}{
		{words.Ingest, "a", "", api.Limit{Rate: 9, Burst: 10}},
		{words.Query, "a", "", api.Limit{Rate: 3, Burst: 4}},
		{words.Ingest, "b", "", api.Limit{Rate: 1, Burst: 2}},
		{words.Query, "a", "b", api.Limit{Rate: 11, Burst: 12}},
		{words.Query, "b", "a", api.Limit{Rate: 7, Burst: 8}},
		{words.Ingest, "a", "b", api.Limit{Rate: 5, Burst: 6}},
	} {
		key := bucket.Key{Class: c.class, Org: c.org, Tenant: c.tenant}
		if got := table.Limit(key); got != c.want {
			t.Errorf("Limit(%v) = %v, want %v", key, got, c.want)
		}
	}
}
