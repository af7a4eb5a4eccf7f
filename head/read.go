// Package head reads heads of HTTP/1.1, and writes the answers to them.
package head

import (
	"strings"

	"sluice/api"
	"sluice/bucket"
	"sluice/words"
)

const (
	version = "HTTP/1.1"
	lineEnd = "\r\n"
	noGood  = 400
)

// A head that names no cost asks for this one.
const usualCost = 1

// Asked is what a head asks for. Its names are pieces of the head.
type Asked struct {
	Refused int        // the code to answer with, if the head asks for nothing; else 0
	Tenant  bucket.Key // of the tenant's bucket that is to be charged, with its organisation's
	Cost    int
}

// Read answers what a head asks for.
func Read(text string) Asked {
	if len(text) > api.MaxHead {
		return Asked{Refused: bucket.TooMuch}
	}
	first, rest, good := splitLines(text)
	if !good {
		return Asked{Refused: noGood}
	}
	class, goodFirst := readFirstLine(first)
	fields, goodFields := readFields(rest)
	if !goodFirst || !goodFields {
		return Asked{Refused: noGood}
	}
	return fields.ask(class)
}

// splitLines answers the first line and those of the fields, and whether an
// empty line stands at the end. An empty line ahead of the end comes as that of
// a field, and is none.
func splitLines(text string) (string, []string, bool) {
	lines := strings.Split(text, lineEnd)
	// Behind the end of the last line is one more piece.
	last := len(lines) - 2
	if last < 1 || lines[last] != "" || lines[last+1] != "" {
		return "", nil, false
	}
	return lines[0], lines[1:last], true
}

func readFirstLine(line string) (words.Class, bool) {
	parts := strings.Split(line, " ")
	if len(parts) != 3 || !isMethod(parts[0]) || parts[2] != version {
		return 0, false
	}
	class, good := strings.CutPrefix(parts[1], "/")
	if !good {
		return 0, false
	}
	return words.ReadClass(class)
}

func isMethod(word string) bool {
	return word == "GET" || word == "POST"
}
