package sluice_test

import (
	"strings"
	"sync"
	"testing"
	"unsafe"

	"sluice/api"
	"sluice/sluice"
)

// canonical has a line of every kind, in the order of the canonical text.
const canonical = defaults +
	"org - ingest 1 1\norg 0 query 2 2\norg a ingest 3 3\norg a query 4 4\norg a-b ingest 5 5\norg a0 ingest 6 6\norg ab ingest 7 7\norg b ingest 8 8\norg z query 9 9\norg α ingest 10 10\norg ω query 11 11\norg ωα ingest 12 12\n" +
	"tenant a a ingest 13 13\ntenant a a query 14 14\ntenant a z query 15 15\ntenant a ω ingest 16 16\ntenant a-b a query 17 17\ntenant ab - ingest 18 18\ntenant b a query 19 19\ntenant α α ingest 20 20\n"

func reversed(lines string) string {
	var text string
	for _, line := range strings.SplitAfter(lines, "\n") {
		text = line + text
	}
	return text
}

// P4: the canonical text has an order of its own, whatever the order of the lines was.
func TestLimitsOrder(t *testing.T) {
	wantLimits(t, made(t, canonical), canonical)
	wantLimits(t, made(t, reversed(canonical)), canonical)
	lines := strings.SplitAfter(strings.TrimSuffix(canonical, "\n"), "\n")
	for i := range lines {
		turned := strings.Join(lines[i:], "") + "\n" + strings.Join(lines[:i], "")
		wantLimits(t, made(t, turned), canonical)
	}
}

// P4: the canonical text has one blank, no leading noughts, and a byte 10 behind each line.
func TestLimitsForm(t *testing.T) {
	loose := "  " + strings.ReplaceAll(strings.ReplaceAll(canonical, " ", "  "), "\n", " \n\n") + "# the end"
	wantLimits(t, made(t, loose), canonical)
	noughts := strings.NewReplacer(" 10 20\n", " 0000010 020\n", " 6 11", " 06 0000011", " 5 5", " 0000005 005")
	wantLimits(t, made(t, noughts.Replace(canonical)), canonical)
	wantLimits(t, made(t, strings.TrimSuffix(canonical, "\n")), canonical)
}

// canonicalOf makes a canonical text of so many bytes: its last line has names and numbers of the length that is left.
func canonicalOf(size int) string {
	text := defaults
	for i := 0; size-len(text) > 46; i++ {
		text += "org " + string([]byte{'a' + byte(i/26), 'a' + byte(i%26), 'x'}) + " ingest 1 1\n"
	}
	spare := size - len(text) - len("tenant a a query 1 1\n")
	take := func(most int) int {
		n := min(spare, most)
		spare -= n
		return n
	}
	return text + "tenant a" + strings.Repeat("b", take(7)) + " a" + strings.Repeat("b", take(7)) +
		" query 1" + strings.Repeat("0", take(6)) + " 1" + strings.Repeat("0", take(6)) + "\n"
}

// P9: a New of Limits() gives the same Limits(), up to a text of 2000 bytes; one of 2001 is told, too, but no longer read.
func TestLimitsOfLimits(t *testing.T) {
	wantLimits(t, made(t, made(t, reversed(canonical)).Limits()), canonical)
	full := canonicalOf(2000)
	if len(full) != 2000 {
		t.Fatalf("a text of %d bytes instead of 2000", len(full))
	}
	wantLimits(t, made(t, full), full)
	wantLimits(t, made(t, made(t, full).Limits()), full)
	above := canonicalOf(2001)
	if len(above) != 2001 {
		t.Fatalf("a text of %d bytes instead of 2001", len(above))
	}
	wantLimits(t, made(t, strings.TrimSuffix(above, "\n")), above)
	wantRefused(t, above, api.ErrLimit, 0)
}

// P4: each call tells the limits that hold when it is made.
func TestReload(t *testing.T) {
	s := made(t, defaults+"org a ingest 1 2\ntenant a b query 3 4\n")
	wantLimit(t, s, "ingest", "a", "", 1, 2)
	wantLimit(t, s, "query", "a", "b", 3, 4)
	for range 2 {
		if e, line := s.Reload(" tenant a b query 30 40\norg c query 5 6\n\n" + defaults); e != api.OK || line != 0 {
			t.Fatalf("Reload = %d, %d", e, line)
		}
		wantLimits(t, s, defaults+"org c query 5 6\ntenant a b query 30 40\n")
		wantLimit(t, s, "ingest", "a", "", 10, 20)
		wantLimit(t, s, "query", "a", "b", 30, 40)
		wantLimit(t, s, "query", "c", "", 5, 6)
	}
	other := strings.ReplaceAll(defaults, "1", "3")
	if e, line := s.Reload(other); e != api.OK || line != 0 {
		t.Fatalf("Reload = %d, %d", e, line)
	}
	wantLimits(t, s, other)
	wantLimit(t, s, "query", "a", "b", 6, 33)
}

// P1: a Reload that is refused changes nothing, also if Limits was asked ahead of it, and a later one still holds.
func TestReloadRefused(t *testing.T) {
	s := made(t, canonical)
	for _, c := range []struct {
		text string
		e    api.Errno
		line int
	}{
		{strings.Repeat(" ", 2001), api.ErrLimit, 0},
		{defaults + "org a ingest 9 9\nx", api.ErrLine, 6},
		{defaults + "org a ingest 9 9\norg a ingest 9 9", api.ErrTwice, 6},
		{"org a ingest 9 9", api.ErrMissing, 0},
		{"", api.ErrMissing, 0},
	} {
		wantLimits(t, s, canonical)
		if e, line := s.Reload(c.text); e != c.e || line != c.line {
			t.Errorf("Reload(%q) = %d, %d, want %d, %d", c.text, e, line, c.e, c.line)
		}
		wantLimits(t, s, canonical)
		wantLimit(t, s, "ingest", "a", "", 3, 3)
	}
	if e, line := s.Reload(defaults); e != api.OK || line != 0 {
		t.Errorf("Reload = %d, %d", e, line)
	}
	wantLimits(t, s, defaults)
}

// P2: Limits and Limit change nothing, however often they are called.
func TestAskingChangesNothing(t *testing.T) {
	s := made(t, reversed(canonical))
	for range 3 {
		wantLimit(t, s, "ingest", "a", "", 3, 3)
		wantLimit(t, s, "ingest", "new", "", 10, 20)
		wantLimit(t, s, "query", "new", "t", 6, 11)
		if _, e := s.Limit("x", "a", "b"); e != api.ErrName {
			t.Errorf("Limit of no class: %d", e)
		}
		wantLimits(t, s, canonical)
	}
	if s.Now() != 0 || s.Sweep() != 0 {
		t.Errorf("time %d, %d buckets not empty", s.Now(), s.Sweep())
	}
}

// P2: a text that is handed in is not kept: what becomes of its memory is not seen.
func TestTextIsNotKept(t *testing.T) {
	memory := []byte(canonical)
	s := made(t, unsafe.String(&memory[0], len(memory)))
	if string(memory) != canonical {
		t.Error("New wrote into its argument")
	}
	clear(memory)
	wantLimit(t, s, "ingest", "a", "", 3, 3)
	wantLimit(t, s, "query", "a", "z", 15, 15)
	wantLimits(t, s, canonical)
	copy(memory, canonical)
	if e, line := s.Reload(unsafe.String(&memory[0], len(memory))); e != api.OK || line != 0 {
		t.Fatalf("Reload = %d, %d", e, line)
	}
	if string(memory) != canonical {
		t.Error("Reload wrote into its argument")
	}
	clear(memory)
	wantLimits(t, s, canonical)
	wantLimit(t, s, "ingest", "a", "ω", 16, 16)
}

// P2: what comes out is new memory.
func TestLimitsIsNewMemory(t *testing.T) {
	s := made(t, canonical)
	first, second := s.Limits(), s.Limits()
	if unsafe.StringData(first) == unsafe.StringData(second) {
		t.Error("two answers of Limits share memory")
	}
	for i := range unsafe.Slice(unsafe.StringData(first), len(first)) {
		unsafe.Slice(unsafe.StringData(first), len(first))[i] = 'x'
	}
	wantLimits(t, s, canonical)
}

// P4: limits are swapped whole: who asks meanwhile sees the old text or the new one.
func TestReloadSwapsWhole(t *testing.T) {
	s := made(t, defaults)
	var group sync.WaitGroup
	for range 4 {
		group.Go(func() { reloadByTurns(t, s) })
		group.Go(func() { askLimits(t, s) })
	}
	group.Wait()
}

func reloadByTurns(t *testing.T, s *sluice.Sluice) {
	for i := range 200 {
		text := defaults
		if i%2 == 0 {
			text = reversed(canonical)
		}
		if e, line := s.Reload(text); e != api.OK || line != 0 {
			t.Errorf("Reload = %d, %d", e, line)
		}
	}
}

func askLimits(t *testing.T, s *sluice.Sluice) {
	for range 200 {
		if got := s.Limits(); got != defaults && got != canonical {
			t.Errorf("Limits() = %q", got)
		}
		if got, e := s.Limit("ingest", "a", ""); e != api.OK || got.Rate != 3 && got.Rate != 10 {
			t.Errorf("Limit = %v, %d", got, e)
		}
	}
}
