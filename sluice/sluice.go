// Package sluice: how much may go through, for each and for all: see DOC.md.
package sluice

import (
	"sync"
	"sync/atomic"

	"sluice/api"
	"sluice/bucket"
	"sluice/head"
	"sluice/quota"
	"sluice/words"
)

// Sluice: limits, and buckets.
type Sluice struct {
	limits atomic.Pointer[quota.Table] // swapped whole: no call sees a mixture of two texts

	lock   sync.Mutex // limits may be loaded at any time, so other calls may come at once, too
	now    int
	levels bucket.Levels // as they are now, so that new limits bear on what comes behind only
}

// New makes a sluice (P3).
func New(limits string) (*Sluice, api.Errno, int) {
	s := &Sluice{levels: bucket.Levels{}}
	if e, line := s.Reload(limits); e != api.OK {
		return nil, e, line
	}
	return s, api.OK, 0
}

// Reload loads limits anew (P4).
func (s *Sluice) Reload(limits string) (api.Errno, int) {
	table, e, line := quota.Read(limits)
	if e != api.OK {
		return e, line
	}
	s.limits.Store(table)
	return api.OK, 0
}

// Limits tells the limits as the canonical text (P4).
func (s *Sluice) Limits() string { return s.limits.Load().Text() }

// Limit tells that of a bucket (P4).
func (s *Sluice) Limit(class string, org string, tenant string) (api.Limit, api.Errno) {
	key, good := readKey(class, org, tenant)
	if !good {
		return api.Limit{}, api.ErrName
	}
	return s.limits.Load().Limit(key), api.OK
}

// readKey answers which bucket is meant, and whether one is: an organisation's,
// if tenant is "".
func readKey(class string, org string, tenant string) (bucket.Key, bool) {
	known, good := words.ReadClass(class)
	if !good || !words.IsName(org) || tenant != "" && !words.IsName(tenant) {
		return bucket.Key{}, false
	}
	return bucket.Key{Class: known, Org: org, Tenant: tenant}, true
}

// Tick lets time go by (P5).
func (s *Sluice) Tick(n int) api.Errno {
	s.lock.Lock()
	defer s.lock.Unlock()
	// The sum of both might wrap round, what is left of the time does not.
	if n < 0 || n > api.MaxTime-s.now {
		return api.ErrRange
	}
	s.levels = s.levels.After(n, s.limits.Load().Limit)
	s.now += n
	return api.OK
}

// Now tells the time (P5).
func (s *Sluice) Now() int {
	s.lock.Lock()
	defer s.lock.Unlock()
	return s.now
}

// Admit decides of a request (P6).
func (s *Sluice) Admit(r api.Request) (api.Answer, api.Errno) {
	tenant, good := readKey(r.Class, r.Org, r.Tenant)
	if !good || r.Tenant == "" {
		return api.Answer{}, api.ErrName
	}
	if r.Cost < 1 || r.Cost > api.MaxCost {
		return api.Answer{}, api.ErrRange
	}
	s.lock.Lock()
	defer s.lock.Unlock()
	return s.levels.Admit(tenant, r.Cost, s.limits.Load().Limit), api.OK
}

// Level tells that of a bucket (P7).
func (s *Sluice) Level(class string, org string, tenant string) (int, api.Errno) {
	key, good := readKey(class, org, tenant)
	if !good {
		return 0, api.ErrName
	}
	s.lock.Lock()
	defer s.lock.Unlock()
	return s.levels[key], api.OK
}

// Sweep tells how many buckets are not empty (P7).
func (s *Sluice) Sweep() int {
	s.lock.Lock()
	defer s.lock.Unlock()
	return len(s.levels)
}

// Serve answers heads (P8).
func (s *Sluice) Serve(heads ...string) []string {
	answers := s.decide(readHeads(heads))
	texts := make([]string, len(answers))
	for i, answer := range answers {
		texts[i] = head.Write(answer)
	}
	return texts
}

// readHeads reads all heads at the same time: none bears on another.
func readHeads(heads []string) []head.Asked {
	asked := make([]head.Asked, len(heads))
	var readers sync.WaitGroup
	for i, text := range heads {
		readers.Go(func() { asked[i] = head.Read(text) })
	}
	readers.Wait()
	return asked
}

// decide goes through what is asked one behind the other, as each answer hangs
// on what was let through ahead of it. No other call comes between.
func (s *Sluice) decide(asked []head.Asked) []api.Answer {
	s.lock.Lock()
	defer s.lock.Unlock()
	limit := s.limits.Load().Limit
	answers := make([]api.Answer, len(asked))
	for i, a := range asked {
		if a.Refused != 0 {
			answers[i] = api.Answer{Code: a.Refused}
			continue
		}
		answers[i] = s.levels.Admit(a.Tenant, a.Cost, limit)
	}
	return answers
}
