package serve

import (
	"interchange/api"
	"interchange/method"
	"interchange/text"
)

// The connection's methods, by their ids.
const (
	start   = 10
	startOk = 11
	tune    = 30
	tuneOk  = 31
	open    = 40
	openOk  = 41
	shut    = 50
	shutOk  = 51
)

// plain is the one way that there is to say who one is.
const plain = "PLAIN"

// hand is a client's connection; it has a method for each state, which takes a right method there.
type hand api.Hand

// step is how a right method is taken in a state.
type step = func(hand, api.Method) (api.Hand, []api.Method, api.Errno)

// steps are all, by state.
func steps() [api.HClosed + 1]step {
	return [...]step{
		api.HHeader:  hand.header,
		api.HStart:   hand.start,
		api.HTune:    hand.tune,
		api.HOpen:    hand.open,
		api.HRun:     hand.run,
		api.HClosing: hand.closing,
		api.HClosed:  hand.closed,
	}
}

func (h hand) header(api.Method) (api.Hand, []api.Method, api.Errno) { return h.refuse(api.ErrWhen) }

func (h hand) start(m api.Method) (api.Hand, []api.Method, api.Errno) {
	if !is(m, startOk) {
		return h.run(m)
	}
	if method.Arg(m, 1).S != plain {
		return h.refuse(api.ErrThere)
	}
	user, pass, ok := text.Pairs(method.Arg(m, 2).S)
	if !ok {
		return h.refuse(api.ErrSyntax)
	}
	h.User, h.Word = user, pass
	return say(api.Hand(h), api.HTune, tune, number(h.T.Chans), number(h.T.Frame), number(h.T.Beat))
}

func (h hand) tune(m api.Method) (api.Hand, []api.Method, api.Errno) {
	if !is(m, tuneOk) {
		return h.run(m)
	}
	t, ok := agree(h.T, m)
	if !ok {
		return h.refuse(api.ErrThere)
	}
	h.T = t
	return h.silent(api.HOpen)
}

func (h hand) open(m api.Method) (api.Hand, []api.Method, api.Errno) {
	if !is(m, open) {
		return h.run(m)
	}
	h.Host = method.Arg(m, 0).S
	return say(api.Hand(h), api.HRun, openOk, word(""))
}

// run also takes what the states ahead of it don't wait for: the other side may close in each of them.
func (h hand) run(m api.Method) (api.Hand, []api.Method, api.Errno) {
	if !is(m, shut) {
		return h.refuse(api.ErrWhen)
	}
	return say(api.Hand(h), api.HClosed, shutOk)
}

// closing drops what was under way when close was sent; but both sides may have sent close at one time.
func (h hand) closing(m api.Method) (api.Hand, []api.Method, api.Errno) {
	switch {
	case is(m, shut):
		return say(api.Hand(h), api.HClosing, shutOk)
	case is(m, shutOk):
		return h.silent(api.HClosed)
	}
	return h.silent(api.HClosing)
}

func (h hand) closed(api.Method) (api.Hand, []api.Method, api.Errno) { return h.silent(api.HClosed) }

func (h hand) refuse(e api.Errno) (api.Hand, []api.Method, api.Errno) { return api.Hand(h), nil, e }

func (h hand) silent(state int) (api.Hand, []api.Method, api.Errno) {
	h.State = state
	return api.Hand(h), nil, api.OK
}

// say is the connection in a state, and a method that it says, with these values.
func say(h api.Hand, state, id int, values ...api.Val) (api.Hand, []api.Method, api.Errno) {
	h.State = state
	return h, []api.Method{{Class: api.CConn, Id: id, Args: values}}, api.OK
}

// agree is what a right tune-ok agrees on, of a tune that was told; false, if that may not be.
func agree(t api.Tune, m api.Method) (api.Tune, bool) {
	theirs := func(i int) int { return int(method.Arg(m, i).N) }
	agreed := func(i, mine int) int { // none is no wish of theirs
		if theirs(i) == 0 {
			return mine
		}
		return theirs(i)
	}
	switch frame := theirs(1); {
	case theirs(0) > t.Chans:
		fallthrough
	case frame > t.Frame:
		fallthrough
	case 0 < frame && frame < api.MinFrame:
		return api.Tune{}, false
	}
	a := api.Tune{Chans: agreed(0, t.Chans), Frame: agreed(1, t.Frame)}
	if theirs(2) != 0 && t.Beat != 0 {
		a.Beat = min(theirs(2), t.Beat)
	}
	return a, true
}

// is: is it the connection's method of that id?
func is(m api.Method, id int) bool { return m.Class == api.CConn && m.Id == id }

func number(n int) api.Val { return api.Val{N: uint64(n)} }

func word(s string) api.Val { return api.Val{S: s} }
