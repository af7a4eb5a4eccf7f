// Package sluice: how much may go through, for each and for all: see DOC.md.
package sluice

import (
	"sync/atomic"

	"sluice/api"
	"sluice/quota"
	"sluice/words"
)

// Sluice: limits, and buckets.
type Sluice struct {
	limits atomic.Pointer[quota.Table] // swapped whole: no call sees a mixture of two texts
}

// New makes a sluice (P3).
func New(limits string) (*Sluice, api.Errno, int) {
	s := &Sluice{}
	if e, line := s.Reload(limits); e != api.OK {
		return nil, e, line
	}
	return s, api.OK, 0
}

// Reload loads limits anew (P4).
func (s *Sluice) Reload(limits string) (api.Errno, int) {
	table, e, line := quota.Read(limits)
	if e != api.OK {
		return e, line
	}
	s.limits.Store(table)
	return api.OK, 0
}

// Limits tells the limits as the canonical text (P4).
func (s *Sluice) Limits() string { return s.limits.Load().Text() }

// Limit tells that of a bucket (P4).
func (s *Sluice) Limit(class string, org string, tenant string) (api.Limit, api.Errno) {
	known, good := readBucket(class, org, tenant)
	if !good {
		return api.Limit{}, api.ErrName
	}
	return s.limits.Load().Limit(known, org, tenant), api.OK
}

// readBucket answers the class of the bucket that is meant, and whether one is:
// an organisation's, if tenant is "".
func readBucket(class string, org string, tenant string) (words.Class, bool) {
	known, good := words.ReadClass(class)
	if !good || !words.IsName(org) {
		return 0, false
	}
	return known, tenant == "" || words.IsName(tenant)
}

// Tick lets time go by (P5).
func (s *Sluice) Tick(n int) api.Errno { return api.OK }

// Now tells the time (P5).
func (s *Sluice) Now() int { return 0 }

// Admit decides of a request (P6).
func (s *Sluice) Admit(r api.Request) (api.Answer, api.Errno) { return api.Answer{}, api.OK }

// Level tells that of a bucket (P7).
func (s *Sluice) Level(class string, org string, tenant string) (int, api.Errno) {
	return 0, api.OK
}

// Sweep tells how many buckets are not empty (P7).
func (s *Sluice) Sweep() int { return 0 }

// Serve answers heads (P8).
func (s *Sluice) Serve(heads ...string) []string { return nil }
