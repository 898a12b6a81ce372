package content

import (
	"slices"

	"interchange/api"
	"interchange/method"
	"interchange/props"
)

// begun is a command as far as it has come.
type begun api.Cmd

// states are how a frame's data is taken, by what is waited for: the command with it, what is waited for then (the next method, if the command is whole), or why it can't be taken.
func states() map[int]func(begun, string) (api.Cmd, int, api.Errno) {
	return map[int]func(begun, string) (api.Cmd, int, api.Errno){
		api.AMethod: begun.withMethod,
		api.AHead:   begun.withHead,
		api.ABody:   begun.withBody,
	}
}

// unexpected: is a frame of that type none that the state waits for?
func unexpected(state, code int) bool {
	switch {
	case state == api.AMethod && code != api.FMethod:
		fallthrough
	case state == api.AHead && code != api.FHead:
		fallthrough
	case state == api.ABody && code != api.FBody:
		return true
	}
	return false
}

// withMethod begins anew: what was there is gone.
func (begun) withMethod(data string) (api.Cmd, int, api.Errno) {
	m, e := method.Take(data)
	switch {
	case e != api.OK:
		return api.Cmd{}, api.AMethod, api.ErrSyntax
	case follows(m):
		return api.Cmd{M: m}, api.AHead, api.OK
	}
	return api.Cmd{M: m}, api.AMethod, api.OK
}

func (b begun) withHead(data string) (api.Cmd, int, api.Errno) {
	h, e := props.Take(data)
	if e != api.OK {
		return api.Cmd{}, api.AMethod, e
	}
	c := api.Cmd{M: b.ownMethod(), H: h}
	if h.Size > 0 {
		return c, api.ABody, api.OK
	}
	return c, api.AMethod, api.OK
}

func (b begun) withBody(data string) (api.Cmd, int, api.Errno) {
	c := api.Cmd{M: b.ownMethod(), H: b.ownHead(), Body: b.Body + data}
	switch n := uint64(len(c.Body)); {
	case n > c.H.Size:
		return api.Cmd{}, api.AMethod, api.ErrFrame
	case n < c.H.Size:
		return c, api.ABody, api.OK
	}
	return c, api.AMethod, api.OK
}

// ownMethod is the method in memory of its own, so that who handed it in may go on with theirs.
func (b begun) ownMethod() api.Method {
	m := b.M
	m.Args = slices.Clone(m.Args)
	return m
}

// ownHead is the head likewise.
func (b begun) ownHead() api.Head {
	h := b.H
	h.Vals = slices.Clone(h.Vals)
	return h
}
