package pool

import (
	"slices"

	"interchange/api"
)

const (
	conns = 64    // so many connections a pool has at most
	chans = 65535 // and each so many channels
)

// copied is a pool of the same, in memory of its own.
func copied(p api.Pool) api.Pool {
	return api.Pool{Max: slices.Clone(p.Max), L: slices.Clone(p.L)}
}

// has: is there that connection?
func has(p api.Pool, c int) bool { return c >= 0 && c < len(p.Max) }

// numbered tells the slot of that number, if it is in one of these states.
func numbered(c, ch int, states ...int) func(api.Slot) bool {
	return func(s api.Slot) bool {
		return s.Conn == c && s.Chan == ch && slices.Contains(states, s.State)
	}
}

// scrubbed is the slot of that number that is being cleaned: there is no other such.
func scrubbed(c, ch int) api.Slot {
	return api.Slot{Conn: c, Chan: ch, State: api.SScrub}
}

// find is the slot of which that is so.
func find(l []api.Slot, so func(api.Slot) bool) (api.Slot, bool) {
	if i := slices.IndexFunc(l, so); i >= 0 {
		return l[i], true
	}
	return api.Slot{}, false
}

// takeOut is those of which that is so, and the others, both in their order.
func takeOut[T any](l []T, so func(T) bool) (out, left []T) {
	for _, x := range l {
		if so(x) {
			out = append(out, x)
		} else {
			left = append(left, x)
		}
	}
	return out, left
}

// least is the first connection with the fewest slots, of those that have fewer than they may.
func least(p api.Pool) (int, bool) {
	have := make([]int, len(p.Max))
	for _, s := range p.L {
		if has(p, s.Conn) {
			have[s.Conn]++
		}
	}
	best, found := 0, false
	for c := range len(p.Max) {
		if have[c] < p.Max[c] && (!found || have[c] < have[best]) {
			best, found = c, true
		}
	}
	return best, found
}

// gap is the least channel that no slot of a connection has, and the place of its slot.
func gap(l []api.Slot, c int) (int, int) {
	i := 0
	for i < len(l) && l[i].Conn < c {
		i++
	}
	ch := 1
	for i < len(l) && l[i].Conn == c && l[i].Chan == ch {
		i, ch = i+1, ch+1
	}
	return i, ch
}

// bounded: are there as many connections, each of as many channels, as may be?
func bounded(most []int) bool {
	if len(most) > conns {
		return false
	}
	for c := range len(most) {
		if most[c] < 0 || most[c] > chans {
			return false
		}
	}
	return true
}

// placed: do slots stand in order, each on a channel that its connection may have, each of somebody, if it has to be?
func placed(p api.Pool) bool {
	last := api.Slot{}
	for _, s := range p.L {
		switch {
		case !has(p, s.Conn) || s.Chan < 1 || s.Chan > p.Max[s.Conn]:
			fallthrough
		case s.Conn < last.Conn || s.Conn == last.Conn && s.Chan <= last.Chan:
			fallthrough
		case !owned(s):
			return false
		}
		last = s
	}
	return true
}

// owned: is a slot of somebody, or, if it is being cleaned, of nobody?
func owned(s api.Slot) bool {
	switch s.State {
	case api.SOpening, api.SLeased:
		return s.Who >= 1
	case api.SScrub:
		return s == scrubbed(s.Conn, s.Chan)
	}
	return false
}

// apart: has nobody two slots?
func apart(l []api.Slot) bool {
	var whos []int
	for _, s := range l {
		if s.State != api.SScrub {
			whos = append(whos, s.Who)
		}
	}
	slices.Sort(whos)
	n := len(whos)
	return len(slices.Compact(whos)) == n
}
