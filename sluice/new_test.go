package sluice_test

import (
	"strings"
	"testing"

	"sluice/api"
	"sluice/sluice"
)

// P3: what is a line, a word, a number or a name, told by the canonical text of it.
func TestNewReadsLines(t *testing.T) {
	for _, c := range []struct{ extra, want string }{
		{"", ""},
		{"\n", ""},
		{"\n\n   \n", ""},
		{"#", ""},
		{"#org a ingest 1 2", ""},
		{"   # x\n#\n#\xff\x00\t\n## default", ""},
		{"org a ingest 1 2", "org a ingest 1 2\n"},
		{"org a ingest 1 2\n", "org a ingest 1 2\n"},
		{"org a ingest 1 2\n\n", "org a ingest 1 2\n"},
		{"   org     a  ingest   1    2     ", "org a ingest 1 2\n"},
		{"org a ingest 1 1000000", "org a ingest 1 1000000\n"},
		{"org a ingest 1000000 1", "org a ingest 1000000 1\n"},
		{"org a ingest 0000001 0000020", "org a ingest 1 20\n"},
		{"org a ingest 0999999 01", "org a ingest 999999 1\n"},
		{"org abcdefgh query 1 2", "org abcdefgh query 1 2\n"},
		{"org αβγδεζηθ query 1 2", "org αβγδεζηθ query 1 2\n"},
		{"org ω9-z query 1 2", "org ω9-z query 1 2\n"},
		{"tenant a αβγδεζηθ query 1 2", "tenant a αβγδεζηθ query 1 2\n"},
		{"tenant - - ingest 1 2", "tenant - - ingest 1 2\n"},
		{"org ingest ingest 1 2", "org ingest ingest 1 2\n"},
		{"tenant org tenant query 1 2", "tenant org tenant query 1 2\n"},
		{"org default query 1 2", "org default query 1 2\n"},
		{"org 1 query 1 2", "org 1 query 1 2\n"},
	} {
		wantLimits(t, made(t, defaults+c.extra), defaults+c.want)
		wantLimits(t, made(t, c.extra+"\n"+strings.TrimSuffix(defaults, "\n")), defaults+c.want)
	}
}

// P3: the text may have 2000 bytes, and not one more, whatever it says.
func TestNewTooLong(t *testing.T) {
	for _, fill := range []string{" ", "\n", "#"} {
		wantLimits(t, made(t, defaults+strings.Repeat(fill, 2000-len(defaults))), defaults)
		wantRefused(t, defaults+strings.Repeat(fill, 2001-len(defaults)), api.ErrLimit, 0)
	}
	wantRefused(t, strings.Repeat("x", 2000), api.ErrLine, 1)
	wantRefused(t, strings.Repeat("x", 2001), api.ErrLimit, 0)
	wantRefused(t, strings.Repeat("\n", 1999)+"x", api.ErrLine, 2000)
	wantRefused(t, strings.Repeat("\n", 2000), api.ErrMissing, 0)
	wantRefused(t, strings.Repeat("\n", 2001), api.ErrLimit, 0)
	wantRefused(t, strings.Repeat(defaults, 1000), api.ErrLimit, 0)
	// Bytes count, not characters.
	wantRefused(t, defaults+"#"+strings.Repeat("α", 950), api.ErrLimit, 0)
}

// badLines have not the form of a line.
var badLines = []string{
	"x", "\t", "\r", "\x00", "\xff", "α", "1", "1 2", "ingest 1 2", "ingest",
	"default", "default org", "default tenant", "default org ingest", "default org ingest 1", "default org ingest 1 2 3",
	"default ingest 1 2", "default a ingest 1 2", "default orgs ingest 1 2", "default Org ingest 1 2",
	"default org x 1 2", "default org Query 1 2", "default tenant a ingest 1 2", "default tenant a b ingest 1 2",
	"Default org ingest 1 2", "defaults org ingest 1 2", "defaultorg ingest 1 2", "default org ingest 0 2", "default org ingest 1 x",
	"org", "org a", "org a ingest", "org a ingest 1", "org a ingest 1 2 3", "org ingest 1 2", "org a b ingest 1 2", "Org a ingest 1 2",
	"org A ingest 1 2", "org abcdefghi ingest 1 2", "org αβγδεζηθι ingest 1 2", "org a_b ingest 1 2", "org # ingest 1 2",
	"org ϊ ingest 1 2", "org ΰ ingest 1 2", "org Α ingest 1 2", "org \xce ingest 1 2", "org a\xb1 ingest 1 2", "org \xff ingest 1 2", "org \ufffd ingest 1 2",
	"org a Ingest 1 2", "org a other 1 2", "org a ingestquery 1 2", "org a 1 2 ingest",
	"org a ingest 0 2", "org a ingest 1 0", "org a ingest 0000000 2", "org a ingest 1 0000000",
	"org a ingest 1000001 2", "org a ingest 1 1000001", "org a ingest 9999999 2", "org a ingest 1 9999999",
	"org a ingest 00000001 2", "org a ingest 1 00000002", "org a ingest 10000000 2", "org a ingest 99999999999999999999 2",
	"org a ingest +1 2", "org a ingest 1 -2", "org a ingest 1.0 2", "org a ingest 1e3 2", "org a ingest 0x1 2", "org a ingest x 2", "org a ingest ١ 2",
	"org\ta ingest 1 2", "org a\tingest 1 2", "org a ingest 1\t2", "\torg a ingest 1 2", "org a ingest 1 2\t", "org a ingest 1 2\r", "org a ingest 1\u00a02",
	"org a ingest 1 2 #", "org a ingest 1 #2", "\t#", "org a ingest 1 2 org b ingest 1 2",
	"tenant", "tenant a", "tenant a b", "tenant a ingest 1 2", "tenant a b ingest 1", "tenant a b ingest 1 2 3", "tenant a b c ingest 1 2", "Tenant a b ingest 1 2",
	"tenant A b ingest 1 2", "tenant a B ingest 1 2", "tenant abcdefghi b ingest 1 2", "tenant a αβγδεζηθι ingest 1 2", "tenant a \xce ingest 1 2", "tenant \xce a ingest 1 2",
	"tenant a b x 1 2", "tenant a b ingest 0 2", "tenant a b ingest 1 1000001",
}

// P3: the first line that has not the form is told, whatever stands behind it.
func TestNewBadLine(t *testing.T) {
	for _, bad := range badLines {
		wantRefused(t, bad, api.ErrLine, 1)
		wantRefused(t, bad+"\n"+defaults, api.ErrLine, 1)
		wantRefused(t, defaults+bad, api.ErrLine, behind)
		wantRefused(t, defaults+bad+"\n", api.ErrLine, behind)
		wantRefused(t, "\n# x\n \n"+defaults+bad+"\ny\nz", api.ErrLine, behind+3)
	}
}

// P3: the first line that speaks of the same as one ahead of it is told.
func TestNewTwice(t *testing.T) {
	for _, line := range []string{
		"default org ingest 10 20", "default org query 1 1", "default tenant ingest 5 10", "  default  tenant query 06 11 ",
	} {
		wantRefused(t, defaults+line, api.ErrTwice, behind)
		wantRefused(t, defaults+line+"\n"+line, api.ErrTwice, behind)
	}
	for _, line := range []string{
		"org a ingest 1 2", "org α query 1 2", "tenant a b ingest 1 2", "tenant a b query 1 2",
	} {
		wantRefused(t, defaults+line+"\n"+line, api.ErrTwice, behind+1)
		wantRefused(t, defaults+line+"\n\n#\n  "+line+"3\n"+line, api.ErrTwice, behind+3)
		wantRefused(t, line+"\n"+defaults+line, api.ErrTwice, behind+1)
	}
}

// P3: lines that differ in one word ahead of their numbers do not speak of the same.
func TestNewNotTwice(t *testing.T) {
	for _, extra := range []string{
		"org a ingest 1 2\norg a query 1 2\norg b ingest 1 2\norg b query 1 2\n",
		"tenant a a ingest 1 2\ntenant a a query 1 2\ntenant a b ingest 1 2\ntenant b a ingest 1 2\n",
		"org a ingest 1 2\ntenant a a ingest 1 2\n",
		"tenant a bc ingest 1 2\ntenant ab c ingest 1 2\n",
		"org default ingest 1 2\norg org ingest 1 2\norg tenant ingest 1 2\n",
	} {
		wantLimits(t, made(t, defaults+extra), defaults+extra)
	}
}

// P3: each of the four defaults must be said.
func TestNewMissing(t *testing.T) {
	lines := strings.SplitAfter(strings.TrimSuffix(defaults, "\n"), "\n")
	for i := range lines {
		rest := strings.Join(lines[:i], "") + strings.Join(lines[i+1:], "")
		wantRefused(t, rest, api.ErrMissing, 0)
		wantRefused(t, rest+"\norg a ingest 1 2\norg a query 1 2\ntenant a b ingest 1 2\ntenant a b query 1 2\n", api.ErrMissing, 0)
		wantRefused(t, rest+"\n#"+lines[i], api.ErrMissing, 0)
	}
	for _, text := range []string{"", "\n", " ", "#", "org a ingest 1 2"} {
		wantRefused(t, text, api.ErrMissing, 0)
	}
}

// P1: where several errors apply, the answer is the one that P3 names first.
func TestNewWhichErrorGoesAhead(t *testing.T) {
	const twins = "org a ingest 1 2\norg a ingest 1 2\n"
	long := strings.Repeat(" ", 2000)
	wantRefused(t, "x\n"+long, api.ErrLimit, 0)
	wantRefused(t, twins+long, api.ErrLimit, 0)
	wantRefused(t, long+"\n", api.ErrLimit, 0)
	wantRefused(t, twins+"x\ny", api.ErrLine, 3)
	wantRefused(t, "x\n"+twins, api.ErrLine, 1)
	wantRefused(t, defaults+defaults+"x", api.ErrLine, 9)
	wantRefused(t, "org a ingest 1 2\nx", api.ErrLine, 2)
	wantRefused(t, twins, api.ErrTwice, 2)
	wantRefused(t, "default org ingest 1 1\n"+twins+"default org ingest 1 1\n", api.ErrTwice, 3)
	// A bad line that would also speak of the same as one ahead is a bad line.
	wantRefused(t, defaults+twins+"org a ingest 0 2", api.ErrLine, 7)
}

// P3: a new sluice stands at the time 0, and its buckets are all empty.
func TestNewIsFresh(t *testing.T) {
	s := made(t, defaults)
	if s.Now() != 0 || s.Sweep() != 0 {
		t.Errorf("a new sluice: time %d, %d buckets not empty", s.Now(), s.Sweep())
	}
	if level, e := s.Level("ingest", "a", "b"); level != 0 || e != api.OK {
		t.Errorf("a new sluice: level %d, %d", level, e)
	}
}

// P2: sluices know nothing of one another.
func TestSluicesAreApart(t *testing.T) {
	const other = "default org ingest 1 1\ndefault org query 1 1\ndefault tenant ingest 1 1\ndefault tenant query 1 1\n"
	a, b, c := made(t, defaults), made(t, defaults), made(t, other)
	if e, line := a.Reload(other + "org a ingest 2 2\n"); e != api.OK || line != 0 {
		t.Fatalf("Reload = %d, %d", e, line)
	}
	if s, _, _ := sluice.New("x"); s != nil {
		t.Error("New of a bad line gives a sluice")
	}
	wantLimits(t, a, other+"org a ingest 2 2\n")
	wantLimits(t, b, defaults)
	wantLimits(t, c, other)
	wantLimit(t, b, "ingest", "a", "", 10, 20)
	wantLimit(t, c, "ingest", "a", "", 1, 1)
}
