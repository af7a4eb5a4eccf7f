package head

import (
	"strconv"

	"sluice/api"
	"sluice/bucket"
)

// Write tells an answer as a head. It is put together anew each time, so that
// no two share memory.
func Write(a api.Answer) string {
	return version + " " + strconv.Itoa(a.Code) + " " + reason(a.Code) + lineEnd + retryField(a) + lineEnd
}

func reason(code int) string {
	switch code {
	case bucket.LetThrough:
		return "No Content"
	case bucket.TooMuch:
		return "Content Too Large"
	case bucket.ComeAgain:
		return "Too Many Requests"
	case bucket.NoRoom:
		return "Service Unavailable"
	}
	return "Bad Request"
}

func retryField(a api.Answer) string {
	if a.Code != bucket.ComeAgain {
		return ""
	}
	return "Retry-After: " + strconv.Itoa(a.Retry) + lineEnd
}
