package dial

import (
	"iter"
	"strings"

	"interchange/api"
	"interchange/method"
	"interchange/serve"
)

// The connection's methods, by their ids: what is said and what it answers stand in one line.
const (
	start, startOk     = 10, 11
	tune, tuneOk       = 30, 31
	open, openOk       = 40, 41
	shut               = 50
	blocked, unblocked = 60, 61
)

// plain is the one way in which the proxy says who it is.
const plain = "PLAIN"

// hand is a broker's connection; it has a method for each state, which takes a right method there.
type hand api.Hand

// step is how a right method is taken in a state.
type step = func(hand, api.Method) (api.Hand, []api.Method, api.Errno)

// steps are all, by state; in one that has none, nothing may be taken.
func steps() map[int]step {
	return map[int]step{
		api.HStart:   hand.start,
		api.HTune:    hand.tune,
		api.HOpen:    hand.open,
		api.HRun:     hand.run,
		api.HClosing: hand.ends,
		api.HClosed:  hand.ends,
	}
}

func (h hand) start(m api.Method) (api.Hand, []api.Method, api.Errno) {
	if !is(m, start) {
		return h.others(m)
	}
	known := method.Arg(m, 0).N == 0 && method.Arg(m, 1).N == 9 // 0-9-1 tells itself as 0 and 9
	if !known || !Offers(method.Arg(m, 3).S, plain) {
		return h.refuse(api.ErrPeer)
	}
	who := "\x00" + h.User + "\x00" + h.Word
	return h.say(api.HTune, conn(startOk, text(serve.Empty()), text(plain), text(who), text("en_US")))
}

func (h hand) tune(m api.Method) (api.Hand, []api.Method, api.Errno) {
	if !is(m, tune) {
		return h.others(m)
	}
	theirs := func(i int) int { return int(method.Arg(m, i).N) }
	t, e := Agree(h.T, api.Tune{Chans: theirs(0), Frame: theirs(1), Beat: theirs(2)})
	if e != api.OK {
		return h.refuse(e)
	}
	h.T = t
	agreed := conn(tuneOk, number(t.Chans), number(t.Frame), number(t.Beat))
	return h.say(api.HOpen, agreed, conn(open, text(h.Host), text(""), number(0)))
}

func (h hand) open(m api.Method) (api.Hand, []api.Method, api.Errno) {
	if !is(m, openOk) {
		return h.others(m)
	}
	return h.say(api.HRun)
}

func (h hand) run(m api.Method) (api.Hand, []api.Method, api.Errno) {
	if !is(m, blocked) && !is(m, unblocked) {
		return h.others(m)
	}
	return h.say(api.HRun)
}

// others takes what a state doesn't wait for: the other side may close in each of them.
func (h hand) others(m api.Method) (api.Hand, []api.Method, api.Errno) {
	if !is(m, shut) {
		return h.refuse(api.ErrPeer)
	}
	return h.ends(m)
}

// ends leaves it to package serve: whichever side a connection has, it ends in the same way.
func (h hand) ends(m api.Method) (api.Hand, []api.Method, api.Errno) {
	return serve.Take(api.Hand(h), m)
}

func (h hand) refuse(e api.Errno) (api.Hand, []api.Method, api.Errno) { return api.Hand(h), nil, e }

// say is the connection in a state, and what it says.
func (h hand) say(state int, says ...api.Method) (api.Hand, []api.Method, api.Errno) {
	h.State = state
	return api.Hand(h), says, api.OK
}

// words goes through the words of a list.
func words(list string) iter.Seq[string] {
	return func(yield func(string) bool) {
		for rest, more := list, true; more; {
			var word string
			word, rest, more = strings.Cut(rest, " ")
			if word != "" && !yield(word) { // between two blanks stands none
				return
			}
		}
	}
}

// is: is it the connection's method of that id?
func is(m api.Method, id int) bool { return m.Class == api.CConn && m.Id == id }

// conn is the connection's method of an id, with these values.
func conn(id int, values ...api.Val) api.Method {
	return api.Method{Class: api.CConn, Id: id, Args: values}
}

func number(n int) api.Val { return api.Val{N: uint64(n)} }

func text(s string) api.Val { return api.Val{S: s} }
