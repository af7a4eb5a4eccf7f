package head

import (
	"strings"

	"sluice/api"
	"sluice/bucket"
	"sluice/words"
)

// fields holds all values of each field that matters: how many there are counts.
type fields struct {
	host, org, tenant, cost []string
}

func readFields(lines []string) (fields, bool) {
	var f fields
	for _, line := range lines {
		name, value, good := readField(line)
		if !good {
			return fields{}, false
		}
		f.add(name, value)
	}
	return f, true
}

func readField(line string) (name string, value string, good bool) {
	name, rest, found := strings.Cut(line, ":")
	if !found || !isFieldName(name) || !isFieldText(rest) {
		return "", "", false
	}
	return name, strings.Trim(rest, " \t"), true
}

func isFieldName(word string) bool {
	for _, r := range word {
		if !isFieldNameRune(r) {
			return false
		}
	}
	return word != ""
}

func isFieldNameRune(r rune) bool {
	return r >= 'a' && r <= 'z' || r >= 'A' && r <= 'Z' || r >= '0' && r <= '9' || r == '-'
}

func isFieldText(text string) bool {
	// A byte above 126 comes as, or as part of, a rune above 126.
	for _, r := range text {
		if (r < ' ' || r > '~') && r != '\t' {
			return false
		}
	}
	return true
}

// add keeps a value, if its field is one of those that matter.
func (f *fields) add(name string, value string) {
	switch strings.ToLower(name) {
	case "host":
		f.host = append(f.host, value)
	case "x-org":
		f.org = append(f.org, value)
	case "x-tenant":
		f.tenant = append(f.tenant, value)
	case "x-cost":
		f.cost = append(f.cost, value)
	}
}

func (f *fields) ask(class words.Class) Asked {
	cost, good := f.readCost()
	if !good || !f.hasHost() || !isOneName(f.org) || !isOneName(f.tenant) {
		return Asked{Refused: noGood}
	}
	return Asked{Tenant: bucket.Key{Class: class, Org: f.org[0], Tenant: f.tenant[0]}, Cost: cost}
}

func (f *fields) hasHost() bool {
	return len(f.host) == 1 && f.host[0] != ""
}

// isOneName need not look for Greek letters: no field has their bytes.
func isOneName(values []string) bool {
	return len(values) == 1 && words.IsName(values[0])
}

func (f *fields) readCost() (int, bool) {
	switch len(f.cost) {
	case 0:
		return usualCost, true
	case 1:
		return words.ReadNumber(f.cost[0], api.MaxCost)
	}
	return 0, false
}
