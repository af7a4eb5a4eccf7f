package bucket

import "sluice/api"

// Levels are counted in parts, so many for a cost of 1. As a second has as many
// nanoseconds, a rate in cost a second is the same number in parts a nanosecond.
const parts = 1000000000

// Levels holds the level of each bucket that is not empty, and of no other: an
// empty one is as if it had never been.
type Levels map[Key]int

// After tells what is left of the levels n nanoseconds later.
func (l Levels) After(n int, limit func(Key) api.Limit) Levels {
	left := make(Levels, len(l))
	for key, level := range l {
		// At most api.MaxTime by api.MaxRate: this does not wrap round.
		level -= n * limit(key).Rate
		if level > 0 {
			left[key] = level
		}
	}
	return left
}

// haveRoom answers whether all these buckets may be other than empty at once.
func (l Levels) haveRoom(keys ...Key) bool {
	filled := len(l)
	for _, key := range keys {
		if l[key] == 0 {
			filled++
		}
	}
	return filled <= api.MaxBuckets
}

// wait is the least number of nanoseconds behind which a cost fits, if it is not above the burst.
func (l Levels) wait(key Key, cost int, limit api.Limit) int {
	above := l[key] + (cost-limit.Burst)*parts
	return roundUp(max(above, 0), limit.Rate)
}

// charge stores a copy of the key each time: a map takes over the memory of a
// key even if it holds an equal one already.
func (l Levels) charge(key Key, cost int) {
	l[key.clone()] += cost * parts
}

// roundUp divides, and counts what is begun of one whole.
func roundUp(n int, by int) int {
	return (n + by - 1) / by
}
