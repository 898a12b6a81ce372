package beat

import "interchange/api"

const (
	longest = 65535   // the greatest Every
	latest  = 1 << 40 // the greatest time of a beat
)

// counted is a beat with each of its numbers as it counts.
func counted(b api.Beat) api.Beat {
	return api.Beat{Every: within(b.Every, longest), In: moment(b.In), Out: moment(b.Out)}
}

// moment is a time as it counts.
func moment(n int) int { return within(n, latest) }

// within is what is nearest to a number from 0 to most.
func within(n, most int) int { return min(max(n, 0), most) }

// sendAt is when a beat is to be sent; it may be later than any time that counts.
func sendAt(b api.Beat) int { return b.Out + b.Every }

// goneAt is when the other side is gone, if no bytes come till then: one beat that is late is forgiven.
func goneAt(b api.Beat) int { return b.In + 2*b.Every }
