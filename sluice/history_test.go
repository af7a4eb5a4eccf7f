package sluice_test

import (
	"math/rand/v2"
	"sort"
	"strconv"
	"testing"

	"sluice/api"
	"sluice/sluice"
)

// A history is a second way to decide of requests: it keeps no levels, but all that was done, and goes through it anew for each question.
type history struct {
	now   int
	deeds []deed
}

// deed is a charge to one bucket, or new limits.
type deed struct {
	at     int
	bucket [3]string // class, organisation, tenant
	cost   int
	limits *modelAnswer // nil for a charge
}

func (h *history) limit(bucket [3]string) api.Limit {
	for i := len(h.deeds) - 1; ; i-- {
		if h.deeds[i].limits != nil {
			return h.deeds[i].limits.limit(bucket[0], bucket[1], bucket[2])
		}
	}
}

func (h *history) level(bucket [3]string, at int) int {
	level, since, rate := 0, 0, 1
	for _, d := range h.deeds {
		level = fallen(level, rate, d.at-since)
		since = d.at
		if d.limits != nil {
			rate = d.limits.limit(bucket[0], bucket[1], bucket[2]).Rate
		} else if d.bucket == bucket {
			level += d.cost * 1000000000
		}
	}
	return fallen(level, rate, at-since)
}

// fallen takes any time, also one by which the rate would wrap round.
func fallen(level, rate, time int) int {
	if time > level/rate {
		return 0
	}
	return level - rate*time
}

func (h *history) sweep() int {
	asked := map[[3]string]bool{}
	count := 0
	for _, d := range h.deeds {
		if d.limits == nil && !asked[d.bucket] && h.level(d.bucket, h.now) > 0 {
			count++
		}
		asked[d.bucket] = true
	}
	return count
}

func (h *history) fits(bucket [3]string, cost int, at int) bool {
	return h.level(bucket, at)+cost*1000000000 <= h.limit(bucket).Burst*1000000000
}

func (h *history) admit(r api.Request) api.Answer {
	tenant, org := [3]string{r.Class, r.Org, r.Tenant}, [3]string{r.Class, r.Org, ""}
	if r.Cost > h.limit(tenant).Burst || r.Cost > h.limit(org).Burst {
		return api.Answer{Code: 413}
	}
	empty := 0
	for _, bucket := range [][3]string{tenant, org} {
		if h.level(bucket, h.now) == 0 {
			empty++
		}
	}
	if empty > 0 && h.sweep()+empty > 64 {
		return api.Answer{Code: 503}
	}
	// The Wait is searched for, not worked out.
	wait := sort.Search(1<<52, func(n int) bool {
		return h.fits(tenant, r.Cost, h.now+n) && h.fits(org, r.Cost, h.now+n)
	})
	if wait > 0 {
		retry := wait / 1000000000
		if retry*1000000000 < wait {
			retry++
		}
		return api.Answer{Code: 429, Wait: wait, Retry: retry}
	}
	h.deeds = append(h.deeds, deed{at: h.now, bucket: tenant, cost: r.Cost}, deed{at: h.now, bucket: org, cost: r.Cost})
	return api.Answer{Code: 204}
}

// play is one sluice and its history, and where the next step is drawn from.
type play struct {
	t    *testing.T
	draw func(below int) int
	s    *sluice.Sluice
	h    history
	last api.Request // what had to wait
	wait int
	seen map[int]int // how often each code was answered

	orgs, limits, pace int // how many there are, how great they are, how long a step may take
}

func (p *play) limitsText() string {
	number := func() string { return strconv.Itoa(1 + p.draw(p.limits)) }
	var text string
	for _, about := range []string{"default org ingest ", "default org query ", "default tenant ingest ", "default tenant query "} {
		text += about + number() + " " + number() + "\n"
	}
	for _, about := range []string{"org o1 ingest ", "org o2 query ", "tenant o0 t0 ingest ", "tenant o1 t1 query ", "tenant o1 t0 ingest "} {
		if p.draw(2) == 0 {
			text += about + number() + " " + number() + "\n"
		}
	}
	return text
}

func (p *play) reload() {
	text := p.limitsText()
	answer := model(text)
	if p.s == nil {
		p.s = made(p.t, text)
	} else {
		reload(p.t, p.s, text)
	}
	p.wait = 0
	p.h.deeds = append(p.h.deeds, deed{at: p.h.now, limits: &answer})
}

func (p *play) request() api.Request {
	class := []string{"ingest", "query"}[p.draw(2)]
	least := 1000000
	org, tenant := "o"+strconv.Itoa(p.draw(p.orgs)), "t"+strconv.Itoa(p.draw(4))
	for _, bucket := range [][3]string{{class, org, ""}, {class, org, tenant}} {
		least = min(least, p.h.limit(bucket).Burst)
	}
	return api.Request{Class: class, Org: org, Tenant: tenant, Cost: 1 + p.draw(least+least/8+1)}
}

func (p *play) admit(r api.Request) {
	if r.Cost > api.MaxCost {
		wantWrong(p.t, p.s, r.Class, r.Org, r.Tenant, r.Cost, api.ErrRange)
		return
	}
	want := p.decide(r)
	wantAdmit(p.t, p.s, r.Class, r.Org, r.Tenant, r.Cost, want)
}

// decide answers as the history does, and keeps what had to wait.
func (p *play) decide(r api.Request) api.Answer {
	want := p.h.admit(r)
	p.seen[want.Code]++
	if want.Code == 429 {
		p.last, p.wait = r, want.Wait
	}
	if want.Code == 204 {
		p.wait = 0
	}
	return want
}

// serve asks for some requests at once, as heads, of which some are not good.
func (p *play) serve() {
	heads, want := make([]string, p.draw(6)), []string{}
	for i := range heads {
		r := p.request()
		heads[i] = headFor(r)
		switch {
		case p.draw(8) == 0:
			heads[i] = heads[i][:p.draw(len(heads[i]))]
			want = append(want, text400)
		case r.Cost > api.MaxCost:
			want = append(want, text400)
		default:
			want = append(want, textOf(p.decide(r)))
		}
	}
	wantServe(p.t, p.s, heads, want...)
}

func (p *play) tick(n int) {
	if n > 1000000000000-p.h.now {
		wantTick(p.t, p.s, n, api.ErrRange)
	} else {
		tick(p.t, p.s, n)
		p.h.now += n
		p.wait = 0
	}
	wantNow(p.t, p.s, p.h.now)
}

// comeAgain asks for the same one nanosecond ahead of its Wait, and at it.
func (p *play) comeAgain() {
	if p.wait == 0 || p.wait > min(1000*p.pace, 1000000000000-p.h.now) {
		return
	}
	r := p.last
	p.tick(p.wait - 1)
	wantWait(p.t, p.s, r.Class, r.Org, r.Tenant, r.Cost, 1, 1)
	p.tick(1)
	wantThrough(p.t, p.s, r.Class, r.Org, r.Tenant, r.Cost)
	p.h.deeds = append(p.h.deeds,
		deed{at: p.h.now, bucket: [3]string{r.Class, r.Org, r.Tenant}, cost: r.Cost},
		deed{at: p.h.now, bucket: [3]string{r.Class, r.Org, ""}, cost: r.Cost})
}

func (p *play) step() {
	switch p.draw(16) {
	case 0:
		p.tick(p.draw(3))
	case 1, 2:
		p.tick(p.draw(p.pace))
	case 3:
		p.tick(p.draw(100 * p.pace))
	case 4:
		if p.draw(4) == 0 {
			p.reload()
		}
	case 5, 6:
		p.comeAgain()
	case 7, 8:
		p.serve()
	default:
		p.admit(p.request())
	}
	bucket := [3]string{[]string{"ingest", "query"}[p.draw(2)], "o" + strconv.Itoa(p.draw(p.orgs)), []string{"", "t0", "t1", "t2", "t3"}[p.draw(5)]}
	wantLevel(p.t, p.s, bucket[0], bucket[1], bucket[2], p.h.level(bucket, p.h.now))
	wantSweep(p.t, p.s, p.h.sweep())
}

// wantNoMoreThanLimits holds what a bucket lets through between any two moments to its burst and what its rate gives, as long as its limit is not changed (P9).
func (p *play) wantNoMoreThanLimits() {
	for i, first := range p.h.deeds {
		if first.limits != nil {
			continue
		}
		past := history{deeds: p.h.deeds[:i]}
		held, let := past.limit(first.bucket), 0
		for _, d := range p.h.deeds[i:] {
			if d.limits != nil && d.limits.limit(first.bucket[0], first.bucket[1], first.bucket[2]) != held {
				break
			}
			if d.bucket == first.bucket {
				let += d.cost
			}
			if let*1000000000 > held.Burst*1000000000+held.Rate*(d.at-first.at) {
				p.t.Errorf("%v lets through %d in %d nanoseconds: more than %v", first.bucket, let, d.at-first.at, held)
			}
		}
	}
}

func playOn(t *testing.T, draw func(below int) int, steps int, seen map[int]int) {
	t.Helper()
	p := &play{t: t, draw: draw, seen: seen}
	p.orgs = []int{1, 3, 40}[draw(3)]
	p.limits = []int{3, 40, 1000000}[draw(3)]
	p.pace = []int{10, 1000000, 1000000000}[draw(3)]
	p.reload()
	for range steps {
		p.step()
		if t.Failed() {
			t.FailNow()
		}
	}
	p.wantNoMoreThanLimits()
}

// P4 to P9: runs of all calls are answered as the history answers them.
func TestHistory(t *testing.T) {
	random := rand.New(rand.NewPCG(3, 4))
	seen := map[int]int{}
	for range 150 {
		playOn(t, random.IntN, 150, seen)
	}
	for _, code := range []int{204, 413, 429, 503} {
		if seen[code] < 300 {
			t.Errorf("only %d answers with %d", seen[code], code)
		}
	}
}

// P1: at any run of calls, they end and do not panic, and answer as the history does.
func FuzzHistory(f *testing.F) {
	f.Add([]byte("\x00\x01\x02\x03"))
	f.Add([]byte("sluice sluice sluice sluice sluice sluice sluice sluice sluice sluice sluice"))
	f.Fuzz(func(t *testing.T, data []byte) {
		draw := func(below int) int {
			n := 0
			for size := below; size > 0 && len(data) > 0; size >>= 8 {
				n = n<<8 | int(data[0])
				data = data[1:]
			}
			return n % below
		}
		playOn(t, draw, min(len(data)/3, 200), map[int]int{})
	})
}

// P1: at any arguments the calls end and do not panic; what is wrong with them is answered.
func FuzzArguments(f *testing.F) {
	f.Add("ingest", "a", "b", 1, 1)
	f.Add("query", "", "\xce", -1, -1)
	f.Fuzz(func(t *testing.T, class, org, tenant string, cost, n int) {
		s := made(t, example)
		wantClass := class == "ingest" || class == "query"
		_, wrongBucket := s.Limit(class, org, tenant)
		want := api.OK
		switch {
		case wrongBucket != api.OK || tenant == "":
			want = api.ErrName
		case cost < 1 || cost > 1000000:
			want = api.ErrRange
		}
		answer, e := s.Admit(api.Request{Class: class, Org: org, Tenant: tenant, Cost: cost})
		if e != want || e != api.OK && answer != (api.Answer{}) || e == api.OK && (!wantClass || answer.Code != 204 && answer.Code != 413) {
			t.Errorf("Admit(%q, %q, %q, %d) = %+v, %d", class, org, tenant, cost, answer, e)
		}
		level, e := s.Level(class, org, tenant)
		if e != wrongBucket || answer.Code == 204 && level != cost*1000000000 || answer.Code != 204 && level != 0 {
			t.Errorf("Level(%q, %q, %q) = %d, %d", class, org, tenant, level, e)
		}
		want = api.OK
		if n < 0 || n > 1000000000000 {
			want = api.ErrRange
		}
		wantTick(t, s, n, want)
	})
}
