package head

import (
	"strings"
	"testing"

	"sluice/api"
	"sluice/bucket"
	"sluice/words"
)

const good = "GET /query HTTP/1.1\r\nHost: h\r\nX-Org: a\r\nX-Tenant: t\r\nX-Cost: 7\r\n\r\n"

var asked = Asked{Tenant: bucket.Key{Class: words.Query, Org: "a", Tenant: "t"}, Cost: 7}

func TestRead(t *testing.T) {
	free := asked
	free.Cost = 1
	ingest := asked
	ingest.Tenant.Class = words.Ingest
	for _, c := range []struct {
		text string
		want Asked
	}{
		{good, asked},
		{strings.Replace(good, "GET", "POST", 1), asked},
		{strings.Replace(good, "query", "ingest", 1), ingest},
		{strings.Replace(good, "X-Cost: 7\r\n", "", 1), free},
		{strings.Replace(good, "X-Cost", "X-Other", 1), free},
		{"", Asked{Refused: 400}},
		{good + "x", Asked{Refused: 400}},
		{strings.Replace(good, "Host", "Ghost", 1), Asked{Refused: 400}},
		{strings.Replace(good, " a\r", " A\r", 1), Asked{Refused: 400}},
		{strings.Replace(good, " 7\r", " x\r", 1), Asked{Refused: 400}},
		{strings.Repeat("x", api.MaxHead), Asked{Refused: 400}},
		{strings.Repeat("x", api.MaxHead+1), Asked{Refused: 413}},
	} {
		if got := Read(c.text); got != c.want {
			t.Errorf("Read(%q) = %+v, want %+v", c.text, got, c.want)
		}
	}
}

// What is refused asks for nothing.
func TestReadEachPiece(t *testing.T) {
	for i := range good {
		for _, text := range []string{good[:i], good[i+1:]} {
			if got := Read(text); got != (Asked{Refused: 400}) {
				t.Errorf("Read(%q) = %+v", text, got)
			}
		}
	}
}

func TestReadField(t *testing.T) {
	for _, c := range []struct{ line, name, value string }{
		{"a:b", "a", "b"}, {"A-0:b", "A-0", "b"}, {"a:", "a", ""}, {"a: \t ", "a", ""}, {"-:\t b c\td \t", "-", "b c\td"}, {"a::b:", "a", ":b:"}, {"a: !~", "a", "!~"},
	} {
		if name, value, good := readField(c.line); name != c.name || value != c.value || !good {
			t.Errorf("readField(%q) = %q, %q, %v", c.line, name, value, good)
		}
	}
	for _, line := range []string{"", "a", ":", ":b", "a :b", " a:b", "a_:b", "é:b", "a:é", "a:\x7f", "a:\x1f", "a:\r", "a:\n", "a:\x00", "a:\xff", "\xff:b"} {
		if name, value, good := readField(line); name != "" || value != "" || good {
			t.Errorf("readField(%q) = %q, %q, %v", line, name, value, good)
		}
	}
}

func TestWrite(t *testing.T) {
	for _, c := range []struct {
		answer api.Answer
		want   string
	}{
		{api.Answer{Code: 204}, "HTTP/1.1 204 No Content\r\n\r\n"},
		{api.Answer{Code: 400}, "HTTP/1.1 400 Bad Request\r\n\r\n"},
		{api.Answer{Code: 413}, "HTTP/1.1 413 Content Too Large\r\n\r\n"},
		{api.Answer{Code: 429, Wait: 1, Retry: 1}, "HTTP/1.1 429 Too Many Requests\r\nRetry-After: 1\r\n\r\n"},
		{api.Answer{Code: 429, Wait: 1000000000000000, Retry: 1000000}, "HTTP/1.1 429 Too Many Requests\r\nRetry-After: 1000000\r\n\r\n"},
		{api.Answer{Code: 503}, "HTTP/1.1 503 Service Unavailable\r\n\r\n"},
	} {
		if got := Write(c.answer); got != c.want {
			t.Errorf("Write(%+v) = %q, want %q", c.answer, got, c.want)
		}
	}
}
