package quota

import (
	"cmp"
	"strings"

	"sluice/words"
)

// kind is what sort of line speaks of a subject, in the order of the canonical text.
type kind int

const (
	defaultOrg kind = iota
	defaultTenant
	ownOrg
	ownTenant
)

const (
	defaultWord = "default"
	orgWord     = "org"
	tenantWord  = "tenant"
)

// subject is what a line speaks of. Names that its kind has no use for stay
// empty, so that two lines speak of the same just if their subjects are equal.
type subject struct {
	kind        kind
	class       words.Class
	org, tenant string
}

// readSubject reads a line's words ahead of its rate and burst.
func readSubject(front []string) (subject, bool) {
	if len(front) == 0 {
		return subject{}, false
	}
	last := len(front) - 1
	class, good := words.ReadClass(front[last])
	if !good {
		return subject{}, false
	}
	return readOwner(front[:last], class)
}

// readOwner copies the names, so that the text they came in is not kept.
func readOwner(front []string, class words.Class) (subject, bool) {
	switch {
	case len(front) == 2 && front[0] == defaultWord && front[1] == orgWord:
		return subject{kind: defaultOrg, class: class}, true
	case len(front) == 2 && front[0] == defaultWord && front[1] == tenantWord:
		return subject{kind: defaultTenant, class: class}, true
	case len(front) == 2 && front[0] == orgWord && words.IsName(front[1]):
		return subject{ownOrg, class, strings.Clone(front[1]), ""}, true
	case len(front) == 3 && front[0] == tenantWord && words.IsName(front[1]) && words.IsName(front[2]):
		return subject{ownTenant, class, strings.Clone(front[1]), strings.Clone(front[2])}, true
	}
	return subject{}, false
}

// front is what readSubject reads.
func (s subject) front() []string {
	switch s.kind {
	case defaultOrg:
		return []string{defaultWord, orgWord, s.class.String()}
	case defaultTenant:
		return []string{defaultWord, tenantWord, s.class.String()}
	case ownOrg:
		return []string{orgWord, s.org, s.class.String()}
	}
	return []string{tenantWord, s.org, s.tenant, s.class.String()}
}

// compareSubjects orders subjects as the canonical text does.
func compareSubjects(a, b subject) int {
	return cmp.Or(
		cmp.Compare(a.kind, b.kind),
		cmp.Compare(a.org, b.org),
		cmp.Compare(a.tenant, b.tenant),
		cmp.Compare(a.class, b.class),
	)
}
