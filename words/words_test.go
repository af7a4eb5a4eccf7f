package words_test

import (
	"strings"
	"testing"

	"sluice/words"
)

func TestReadClass(t *testing.T) {
	for _, class := range []words.Class{words.Ingest, words.Query} {
		if got, good := words.ReadClass(class.String()); got != class || !good {
			t.Errorf("ReadClass(%q) = %d, %v", class, got, good)
		}
	}
	if words.Ingest.String() != "ingest" || words.Query.String() != "query" {
		t.Errorf("the classes are told as %q and %q", words.Ingest, words.Query)
	}
	for _, word := range []string{"", "Ingest", "QUERY", "ingest ", " query", "ingests", "quer", "default", "ing\xffest"} {
		if _, good := words.ReadClass(word); good {
			t.Errorf("ReadClass(%q) answers a class", word)
		}
	}
}

func TestIsNameAnswersYes(t *testing.T) {
	for _, word := range []string{
		"a", "z", "0", "9", "-", "α", "ω", "ς",
		"abcdefgh", "--------", "01234567", "a-0αωz9-",
		strings.Repeat("α", 8), strings.Repeat("ω", 8),
		"org", "tenant", "default", "ingest", "query",
	} {
		if !words.IsName(word) {
			t.Errorf("IsName(%q) = false", word)
		}
	}
}

func TestIsNameAnswersNo(t *testing.T) {
	for _, word := range []string{
		"", "abcdefghi", strings.Repeat("α", 9), "abcdefgh\xff", strings.Repeat("a", 100000),
		"A", "Z", "_", ".", "/", ":", "`", "{", "#", " ", "a ", " a", "a b", "a\tb", "a\n", "a\r", "a\x00",
		"ΰ", "ϊ", "Α", "Ω", "ά", "ё", "é", "ａ", "１", "–", "\ufffd",
		"\xce", "\xb1", "\xce\xce", "a\xce", "\xceb", "α\xce", "\xff", "\xc1\xa1", "\xe0\x8e\xb1", "\xed\xa0\x80",
	} {
		if words.IsName(word) {
			t.Errorf("IsName(%q) = true", word)
		}
	}
}

func TestIsNameOfEachRune(t *testing.T) {
	const allowed = "abcdefghijklmnopqrstuvwxyz0123456789-αβγδεζηθικλμνξοπρςστυφχψω"
	for r := rune(0); r <= 0x11000; r++ {
		word := string(r)
		if got, want := words.IsName(word), strings.Contains(allowed, word); got != want {
			t.Errorf("IsName(%q) = %v", word, got)
		}
	}
}

func TestReadNumber(t *testing.T) {
	for _, c := range []struct {
		word string
		most int
		want int
	}{
		{"1", 1000000, 1}, {"9", 1000000, 9}, {"10", 1000000, 10}, {"0000001", 1000000, 1}, {"0000090", 1000000, 90},
		{"999999", 1000000, 999999}, {"0999999", 1000000, 999999}, {"1000000", 1000000, 1000000},
		{"1234567", 9999999, 1234567}, {"7", 7, 7},
	} {
		if got, good := words.ReadNumber(c.word, c.most); got != c.want || !good {
			t.Errorf("ReadNumber(%q, %d) = %d, %v", c.word, c.most, got, good)
		}
	}
	for _, word := range []string{
		"", "0", "0000000", "1000001", "9999999", "00000001", "10000000", "99999999999999999999999",
		"+1", "-1", "1.0", "1e3", "0x1", "1_0", "x", "1x", "x1", " 1", "1 ", "1\r", "1\x00", "١", "１", "²", "1\xff", "/", ":",
	} {
		if got, good := words.ReadNumber(word, 1000000); got != 0 || good {
			t.Errorf("ReadNumber(%q) = %d, %v", word, got, good)
		}
	}
}
