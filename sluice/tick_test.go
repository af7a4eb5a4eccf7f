package sluice_test

import (
	"math"
	"testing"

	"sluice/api"
)

// P5: the time goes on by what Tick is given.
func TestTick(t *testing.T) {
	s := made(t, defaults)
	wantNow(t, s, 0)
	tick(t, s, 0)
	wantNow(t, s, 0)
	tick(t, s, 1)
	wantNow(t, s, 1)
	tick(t, s, 41)
	wantNow(t, s, 42)
	tick(t, s, 0)
	wantNow(t, s, 42)
	tick(t, s, 999999999958)
	wantNow(t, s, 1000000000000)
	tick(t, s, 0)
	wantNow(t, s, 1000000000000)
}

// P5: the whole time may go by at once.
func TestTickToTheEnd(t *testing.T) {
	s := made(t, defaults)
	wantTick(t, s, 1000000000001, api.ErrRange)
	tick(t, s, 1000000000000)
	wantNow(t, s, 1000000000000)
	for _, n := range []int{1, 1000000000000, math.MaxInt, -1, math.MinInt} {
		wantTick(t, s, n, api.ErrRange)
	}
	wantNow(t, s, 1000000000000)
}

// P5, P1: ErrRange, and nothing is changed, neither the time nor a level.
func TestTickErrRange(t *testing.T) {
	s := made(t, defaults)
	tick(t, s, 5)
	wantThrough(t, s, "ingest", "a", "t", 10)
	for _, n := range []int{-1, -5, -6, -1000000000000, math.MinInt, math.MinInt + 5, 999999999996, 1000000000000, 1000000000001, 1 << 62, math.MaxInt - 5, math.MaxInt - 4, math.MaxInt} {
		wantTick(t, s, n, api.ErrRange)
		wantNow(t, s, 5)
		wantLevel(t, s, "ingest", "a", "t", 10000000000)
		wantLevel(t, s, "ingest", "a", "", 10000000000)
	}
	tick(t, s, 999999999995)
	wantNow(t, s, 1000000000000)
	wantSweep(t, s, 0)
}

// P5: nothing but Tick lets time go by.
func TestTimeStandsStill(t *testing.T) {
	s := made(t, defaults)
	tick(t, s, 7)
	wantThrough(t, s, "ingest", "a", "t", 10)
	wantWait(t, s, "ingest", "a", "t", 1, 200000000, 1)
	wantWrong(t, s, "x", "a", "t", 1, api.ErrName)
	reload(t, s, defaults)
	wantSweep(t, s, 2)
	wantLevel(t, s, "ingest", "a", "t", 10000000000)
	wantNow(t, s, 7)
}

// Buckets at the end of the time still decide.
func TestAdmitAtTheEndOfTime(t *testing.T) {
	s := made(t, defaults)
	tick(t, s, 1000000000000)
	wantThrough(t, s, "ingest", "a", "t", 10)
	wantWait(t, s, "ingest", "a", "t", 10, 2000000000, 2)
	wantTick(t, s, 1, api.ErrRange)
	wantLevel(t, s, "ingest", "a", "t", 10000000000)
}
