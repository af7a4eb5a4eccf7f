package quota

import (
	"strings"

	"sluice/api"
	"sluice/words"
)

// saying is what one line says.
type saying struct {
	line  int
	about subject
	limit api.Limit
}

// Read makes a table of a text of limits; else it answers the error and its line.
func Read(text string) (*Table, api.Errno, int) {
	if len(text) > api.MaxText {
		return nil, api.ErrLimit, 0
	}
	// All lines are read ahead of the search for twins: a bad line goes ahead
	// of a twin, even if it stands behind it.
	sayings, bad := readLines(text)
	if bad > 0 {
		return nil, api.ErrLine, bad
	}
	said, twin := gather(sayings)
	if twin > 0 {
		return nil, api.ErrTwice, twin
	}
	if !hasDefaults(said) {
		return nil, api.ErrMissing, 0
	}
	return &Table{said: said}, api.OK, 0
}

// readLines answers what the lines say, or the number of the first bad one.
func readLines(text string) ([]saying, int) {
	var sayings []saying
	for i, line := range strings.Split(text, "\n") {
		split := strings.FieldsFunc(line, isBlank)
		if saysNothing(split) {
			continue
		}
		about, limit, good := readLine(split)
		if !good {
			return nil, i + 1
		}
		sayings = append(sayings, saying{i + 1, about, limit})
	}
	return sayings, 0
}

// isBlank knows just the byte 32: a tab or a byte 13 is part of a word.
func isBlank(r rune) bool {
	return r == ' '
}

func saysNothing(split []string) bool {
	return len(split) == 0 || strings.HasPrefix(split[0], "#")
}

func readLine(split []string) (subject, api.Limit, bool) {
	if len(split) < 2 {
		return subject{}, api.Limit{}, false
	}
	numbers := len(split) - 2
	about, good := readSubject(split[:numbers])
	rate, goodRate := words.ReadNumber(split[numbers], api.MaxRate)
	burst, goodBurst := words.ReadNumber(split[numbers+1], api.MaxBurst)
	if !good || !goodRate || !goodBurst {
		return subject{}, api.Limit{}, false
	}
	return about, api.Limit{Rate: rate, Burst: burst}, true
}

// gather answers the limit of each subject, or the line of the first twin.
func gather(sayings []saying) (map[subject]api.Limit, int) {
	said := make(map[subject]api.Limit, len(sayings))
	for _, s := range sayings {
		if _, twin := said[s.about]; twin {
			return nil, s.line
		}
		said[s.about] = s.limit
	}
	return said, 0
}

func hasDefaults(said map[subject]api.Limit) bool {
	for _, k := range []kind{defaultOrg, defaultTenant} {
		for _, class := range []words.Class{words.Ingest, words.Query} {
			if _, good := said[subject{kind: k, class: class}]; !good {
				return false
			}
		}
	}
	return true
}
