// Package bucket keeps the levels of buckets, and decides what is let through.
package bucket

import (
	"strings"

	"sluice/words"
)

// Key tells a bucket from all others.
type Key struct {
	Class  words.Class
	Org    string
	Tenant string // "" for the organisation's bucket
}

// Organisation is the key of the organisation's bucket that goes with a tenant's.
func (k Key) Organisation() Key {
	return Key{Class: k.Class, Org: k.Org}
}

// clone shares no memory with the names that the key was made of.
func (k Key) clone() Key {
	return Key{k.Class, strings.Clone(k.Org), strings.Clone(k.Tenant)}
}
