// Package quota reads a text of limits, and tells the limits that it sets.
package quota

import (
	"slices"
	"strconv"
	"strings"
	"sync"

	"sluice/api"
	"sluice/bucket"
)

// Table is what a text of limits says. It never changes, so that any number of
// calls may read it at the same time.
type Table struct {
	said map[subject]api.Limit
	once sync.Once
	text string // what once has made
}

// Limit tells the limit of a bucket: its own, or the default.
func (t *Table) Limit(key bucket.Key) api.Limit {
	own := subject{ownTenant, key.Class, key.Org, key.Tenant}
	general := subject{kind: defaultTenant, class: key.Class}
	if key.Tenant == "" {
		own.kind, general.kind = ownOrg, defaultOrg
	}
	if limit, said := t.said[own]; said {
		return limit
	}
	return t.said[general]
}

// Text tells the canonical text. It is made once, but each answer is a copy,
// as no two answers share memory.
func (t *Table) Text() string {
	t.once.Do(t.writeText)
	return strings.Clone(t.text)
}

func (t *Table) writeText() {
	var text strings.Builder
	for _, s := range t.subjects() {
		text.WriteString(canonicalLine(s, t.said[s]))
	}
	t.text = text.String()
}

// subjects are sorted, since a map has no order of its own.
func (t *Table) subjects() []subject {
	subjects := make([]subject, 0, len(t.said))
	for s := range t.said {
		subjects = append(subjects, s)
	}
	slices.SortFunc(subjects, compareSubjects)
	return subjects
}

func canonicalLine(s subject, limit api.Limit) string {
	line := append(s.front(), strconv.Itoa(limit.Rate), strconv.Itoa(limit.Burst))
	return strings.Join(line, " ") + "\n"
}
