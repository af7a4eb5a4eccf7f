package bucket

import "sluice/api"

// The codes of answers.
const (
	LetThrough = 204
	TooMuch    = 413
	ComeAgain  = 429
	NoRoom     = 503
)

const second = 1000000000 // nanoseconds

// Admit charges a cost to a tenant's bucket and to its organisation's, or to
// neither, and answers which.
func (l Levels) Admit(tenant Key, cost int, limit func(Key) api.Limit) api.Answer {
	org := tenant.Organisation()
	ofOrg, ofTenant := limit(org), limit(tenant)
	if cost > ofOrg.Burst || cost > ofTenant.Burst {
		return api.Answer{Code: TooMuch}
	}
	if !l.haveRoom(org, tenant) {
		return api.Answer{Code: NoRoom}
	}
	wait := max(l.wait(org, cost, ofOrg), l.wait(tenant, cost, ofTenant))
	if wait > 0 {
		return api.Answer{Code: ComeAgain, Wait: wait, Retry: roundUp(wait, second)}
	}
	l.charge(org, cost)
	l.charge(tenant, cost)
	return api.Answer{Code: LetThrough}
}
