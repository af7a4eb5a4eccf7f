// Package words reads the single words of which requests and limits are made.
package words

import "sluice/api"

// Class is one of the two kinds of request, in the order in which they are told.
type Class int

const (
	Ingest Class = iota
	Query
)

const (
	ingestWord = "ingest"
	queryWord  = "query"
)

// More digits are no number, even if the first ones are noughts.
const maxDigits = 7

// ReadClass answers the class that a word means, and whether it means one.
func ReadClass(word string) (Class, bool) {
	switch word {
	case ingestWord:
		return Ingest, true
	case queryWord:
		return Query, true
	}
	return 0, false
}

// String is the word that means the class.
func (c Class) String() string {
	if c == Ingest {
		return ingestWord
	}
	return queryWord
}

// IsName answers whether a word may name an organisation or a tenant.
func IsName(word string) bool {
	count := 0
	// A byte that is no UTF-8 comes as U+FFFD here, which no name may have.
	for _, r := range word {
		count++
		if count > api.MaxName || !isNameRune(r) {
			return false
		}
	}
	return count > 0
}

func isNameRune(r rune) bool {
	switch {
	case r >= 'a' && r <= 'z', r >= '0' && r <= '9', r == '-':
		return true
	}
	return r >= 'α' && r <= 'ω'
}

// ReadNumber answers the number from 1 to most that a word of digits tells, and whether it tells one.
func ReadNumber(word string, most int) (int, bool) {
	if len(word) > maxDigits {
		return 0, false
	}
	number := 0
	for _, r := range word {
		if r < '0' || r > '9' {
			return 0, false
		}
		number = number*10 + int(r-'0')
	}
	if number < 1 || number > most {
		return 0, false
	}
	return number, true
}
