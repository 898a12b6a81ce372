package content_test

import (
	"encoding/binary"
	"fmt"
	"math"
	"math/rand"
	"slices"
	"strings"
	"testing"

	"interchange/api"
	"interchange/content"
	"interchange/frame"
	"interchange/method"
	"interchange/props"
	"interchange/sig"
)

const noTable = "\x00\x00\x00\x00" // a table without fields

func n(v uint64) api.Val { return api.Val{N: v} }

func s(v string) api.Val { return api.Val{S: v} }

// mixed are k bytes, in which all kinds of bytes come.
func mixed(k int) string {
	b := make([]byte, k)
	for i := range b {
		b[i] = byte(7*i + i/256)
	}
	return string(b)
}

// whole is a number in so many bytes.
func whole(width int, v uint64) string {
	return string(binary.BigEndian.AppendUint64(nil, v))[8-width:]
}

// tableOf is a table of k bytes in all, which are 12 at least: one field, a long text.
func tableOf(k int) string {
	return whole(4, uint64(k-4)) + "\x01aS" + whole(4, uint64(k-11)) + strings.Repeat("x", k-11)
}

func of(class, id int, l ...api.Val) api.Method {
	return api.Method{Class: class, Id: id, Args: l}
}

// The four methods that a content follows, and some that none does.
var (
	publish = of(60, 40, n(0), s("x"), s("k"), n(1), n(0))
	returns = of(60, 50, n(312), s("NO_ROUTE"), s("x"), s("k"))
	deliver = of(60, 60, s("c"), n(7), n(0), s("x"), s("k"))
	getOk   = of(60, 71, n(1<<40), n(1), s("x"), s("k"), n(9))

	closeOk = of(10, 51)
	tune    = of(10, 30, n(2047), n(131072), n(60))
	ack     = of(60, 80, n(1), n(0))
	get     = of(60, 70, n(0), s("q"), n(1))
	commit  = of(90, 20)
)

var withContent = []api.Method{publish, returns, deliver, getOk}

var without = []api.Method{closeOk, tune, ack, get, commit}

// challenge is a method without a content of k bytes in all, which are 8 at least.
func challenge(k int) api.Method { return of(10, 20, s(strings.Repeat("c", k-8))) }

// heads are right ones, but for Size: no property, one, several, all, a table.
func heads() []api.Head {
	return []api.Head{
		{Class: 60},
		{Class: 60, Flags: 0x8000, Vals: []api.Val{s("a/b")}},
		{Class: 60, Flags: 0x9040, Vals: []api.Val{s("a/b"), n(2), n(5)}},
		{Class: 60, Flags: 0x2000, Vals: []api.Val{s(tableOf(300))}},
		{Class: 60, Flags: 0xfffc, Vals: []api.Val{s("a"), s("b"), s(noTable), n(1), n(9), s("c"), s("d"), s("e"), s("f"), n(258), s("g"), s("h"), s("i"), s("")}},
	}
}

// full is a command with that content; Size is told by the body.
func full(m api.Method, h api.Head, body string) api.Cmd {
	h.Size = uint64(len(body))
	return api.Cmd{M: m, H: h, Body: body}
}

// sizes are how many bytes a body has: nothing, one, about one piece, about several, the most.
var sizes = []int{0, 1, 2, 5, 4087, 4088, 4089, 5000, 8175, 8176, 8177, 12264, 12265, 65535, 65536}

// rights are commands that are right.
func rights() []api.Cmd {
	var l []api.Cmd
	for _, m := range without {
		l = append(l, api.Cmd{M: m})
	}
	for _, m := range withContent {
		for _, h := range heads() {
			for _, k := range []int{0, 1, 5, 4088, 4089} {
				l = append(l, full(m, h, mixed(k)))
			}
		}
	}
	for _, k := range sizes {
		l = append(l, full(publish, heads()[2], mixed(k)))
	}
	return l
}

// anyOf is a right method of that class and id, with values that aren't empty.
func anyOf(t *testing.T, class, id int) api.Method {
	t.Helper()
	letters, is := sig.Of(class, id)
	if !is {
		t.Fatalf("no method %d, %d", class, id)
	}
	m := of(class, id)
	for i := range len(letters) {
		v := n(1)
		switch letters[i] {
		case 'S', 'L':
			v = s("t")
		case 'T':
			v = s(noTable)
		}
		m.Args = append(m.Args, v)
	}
	return m
}

// methodBytes are a right method's.
func methodBytes(t *testing.T, m api.Method) string {
	t.Helper()
	b, e := method.Bytes(m)
	if e != api.OK {
		t.Fatalf("method %d, %d: %d", m.Class, m.Id, e)
	}
	return b
}

// headBytes are a right head's.
func headBytes(t *testing.T, h api.Head) string {
	t.Helper()
	b, e := props.Bytes(h)
	if e != api.OK {
		t.Fatalf("head of flags %#x: %d", h.Flags, e)
	}
	return b
}

func equalHeads(a, b api.Head) bool {
	return a.Class == b.Class && a.Size == b.Size && a.Flags == b.Flags && slices.Equal(a.Vals, b.Vals)
}

// equal holds two commands against each other by the words alone.
func equal(a, b api.Cmd) bool {
	return a.M.Class == b.M.Class && a.M.Id == b.M.Id && slices.Equal(a.M.Args, b.M.Args) && equalHeads(a.H, b.H) && a.Body == b.Body
}

func equalAsm(a, b api.Asm) bool { return a.State == b.State && equal(a.C, b.C) }

func clone(c api.Cmd) api.Cmd {
	c.M.Args, c.H.Vals = slices.Clone(c.M.Args), slices.Clone(c.H.Vals)
	return c
}

// shown is a command as a failed test tells it.
func shown(c api.Cmd) string {
	return fmt.Sprintf("method %d, %d of %d values, head %d, size %d, flags %#x, %d values, body %.24q of %d bytes",
		c.M.Class, c.M.Id, len(c.M.Args), c.H.Class, c.H.Size, c.H.Flags, len(c.H.Vals), c.Body, len(c.Body))
}

func shownFrames(l []api.Frame) string {
	var each []string
	for _, f := range l {
		each = append(each, fmt.Sprintf("type %d, channel %d, %.24q of %d bytes", f.Type, f.Chan, f.Data, len(f.Data)))
	}
	return strings.Join(each, "; ")
}

// is holds that Right tells the error.
func is(t *testing.T, c api.Cmd, want api.Errno) {
	t.Helper()
	if e := content.Right(c); e != want {
		t.Errorf("Right of %s: %d, not %d", shown(c), e, want)
	}
}

// P8.1

func TestRight(t *testing.T) {
	for _, c := range rights() {
		is(t, c, api.OK)
	}
}

// TestRightOfEachMethod (P8.1): the head is asked for just where a content follows.
func TestRightOfEachMethod(t *testing.T) {
	for _, at := range sig.All() {
		m := anyOf(t, at[0], at[1])
		follows := at == [2]int{60, 40} || at == [2]int{60, 50} || at == [2]int{60, 60} || at == [2]int{60, 71}
		if follows {
			is(t, api.Cmd{M: m}, api.ErrSyntax)
			is(t, api.Cmd{M: m, H: api.Head{Class: 60}}, api.OK)
			is(t, full(m, heads()[2], "hello"), api.OK)
			continue
		}
		is(t, api.Cmd{M: m}, api.OK)
		is(t, api.Cmd{M: m, H: api.Head{Class: 60}}, api.ErrForm)
		is(t, full(m, heads()[2], "hello"), api.ErrForm)
	}
}

// wrongMethods are methods that aren't right, with the error of each.
func wrongMethods() map[api.Errno][]api.Method {
	return map[api.Errno][]api.Method{
		api.ErrSyntax: {{}, of(60, 41), of(61, 40), of(60, 0), of(-60, 40), of(60, 40), of(60, 40, n(0), s("x"), s("k"), n(1)), of(60, 80, n(1), n(0), n(0)), of(10, 51, n(0)), of(60+1<<16, 80, n(1), n(0))},
		api.ErrBig:    {of(60, 40, n(65536), s("x"), s("k"), n(1), n(0)), of(60, 40, n(0), s(mixed(256)), s("k"), n(1), n(0)), of(60, 40, n(0), s("x"), s("k"), n(2), n(0)), of(60, 80, n(1), n(2)), of(10, 20, s(mixed(131073)))},
		api.ErrArg:    {of(60, 40, s("x"), s("x"), s("k"), n(1), n(0)), of(60, 60, n(1), n(7), n(0), s("x"), s("k")), of(60, 80, n(1), s("z"))},
		api.ErrForm:   {of(60, 20, n(0), s("q"), s("c"), n(0), n(0), n(0), n(0), s("")), of(10, 11, s("z"), s(""), s(""), s(""))},
	}
}

// TestRightOfTheMethod (P8.1): its error comes first, whatever head and body are.
func TestRightOfTheMethod(t *testing.T) {
	for e, l := range wrongMethods() {
		for _, m := range l {
			is(t, api.Cmd{M: m}, e)
			is(t, full(m, heads()[1], "hello"), e)
			is(t, api.Cmd{M: m, H: api.Head{Class: 50}, Body: "z"}, e)
			is(t, api.Cmd{M: m, H: api.Head{Class: 60, Size: 65537}}, e)
			is(t, api.Cmd{M: m, H: api.Head{Class: 60, Size: 4}, Body: "hello"}, e)
		}
	}
}

// wrongHeads are heads that aren't right, with the error of each.
func wrongHeads() map[api.Errno][]api.Head {
	return map[api.Errno][]api.Head{
		api.ErrSyntax: {{}, {Class: 50, Size: 5}, {Class: 60, Size: 5, Flags: 1}, {Class: 60, Size: 5, Flags: 2}, {Class: 60, Size: 5, Flags: 1 << 16}, {Class: 60, Size: 5, Flags: 0x8000}, {Class: 60, Size: 5, Vals: []api.Val{s("a")}}, {Class: 61, Size: 65537}},
		api.ErrBig:    {{Class: 60, Size: 65537}, {Class: 60, Size: math.MaxUint64}, {Class: 60, Size: 1<<32 + 5}, {Class: 60, Size: 5, Flags: 0x8000, Vals: []api.Val{s(mixed(256))}}, {Class: 60, Size: 5, Flags: 0x1000, Vals: []api.Val{n(256)}}},
		api.ErrArg:    {{Class: 60, Size: 5, Flags: 0x8000, Vals: []api.Val{n(1)}}, {Class: 60, Size: 5, Flags: 0x1000, Vals: []api.Val{s("a")}}},
		api.ErrForm:   {{Class: 60, Size: 5, Flags: 0x2000, Vals: []api.Val{s("")}}},
	}
}

// TestRightOfTheHead (P8.1): its error comes ahead of that of Size; none of them counts where no content follows.
func TestRightOfTheHead(t *testing.T) {
	for e, l := range wrongHeads() {
		for _, h := range l {
			for _, body := range []string{"", "z", "hello", mixed(65537)} {
				for _, m := range withContent {
					is(t, api.Cmd{M: m, H: h, Body: body}, e)
				}
				for _, m := range without {
					want := api.ErrForm
					if equalHeads(h, api.Head{}) && body == "" {
						want = api.OK
					}
					is(t, api.Cmd{M: m, H: h, Body: body}, want)
				}
			}
		}
	}
}

// TestRightOfSize (P8.1): as many bytes as Body has, no fewer and no more.
func TestRightOfSize(t *testing.T) {
	for _, m := range withContent {
		for _, h := range heads() {
			for _, size := range []uint64{0, 1, 2, 5, 255, 256, 257, 4088, 65535, 65536} {
				h.Size = size
				for _, k := range []int{0, 1, 2, 3, 4, 5, 6, 255, 256, 257, 4087, 4088, 4089, 65534, 65535, 65536, 65537, 131072} {
					want := api.ErrForm
					if size == uint64(k) {
						want = api.OK
					}
					is(t, api.Cmd{M: m, H: h, Body: mixed(k)}, want)
				}
			}
		}
	}
}

// TestRightNothingFollows (P8.1): each field of the head has to be empty, and the body; a list without elements is empty.
func TestRightNothingFollows(t *testing.T) {
	for _, m := range append(slices.Clone(without), challenge(100)) {
		is(t, api.Cmd{M: m, H: api.Head{Vals: []api.Val{}}}, api.OK)
		for _, h := range []api.Head{{Class: 60}, {Class: 1}, {Class: -1}, {Size: 1}, {Size: 1 << 63}, {Flags: 1}, {Flags: 0x8000}, {Vals: []api.Val{{}}}, {Class: 60, Flags: 0x8000, Vals: []api.Val{s("a/b")}}} {
			is(t, api.Cmd{M: m, H: h}, api.ErrForm)
			is(t, api.Cmd{M: m, H: h, Body: "z"}, api.ErrForm)
		}
		for _, body := range []string{"z", "\x00", "hello", mixed(65537)} {
			is(t, api.Cmd{M: m, Body: body}, api.ErrForm)
			is(t, full(m, api.Head{}, body), api.ErrForm)
			is(t, full(m, api.Head{Class: 60}, body), api.ErrForm)
		}
	}
}

// TestIdle (P8.1): by the state alone.
func TestIdle(t *testing.T) {
	for _, state := range []int{math.MinInt, -2, -1, 0, 1, 2, 3, 4, 256, 1 << 32, math.MaxInt} {
		for _, c := range []api.Cmd{{}, {M: publish}, full(publish, heads()[1], "hello")} {
			if got := content.Idle(api.Asm{State: state, C: c}); got != (state == 0) {
				t.Errorf("Idle of state %d: %v", state, got)
			}
		}
	}
}

// others are commands that differ from c in one thing each.
func others(c api.Cmd) []api.Cmd {
	var l []api.Cmd
	change := func(f func(c *api.Cmd)) {
		d := clone(c)
		f(&d)
		l = append(l, d)
	}
	change(func(c *api.Cmd) { c.M.Class++ })
	change(func(c *api.Cmd) { c.M.Id++ })
	change(func(c *api.Cmd) { c.M.Args = append(c.M.Args, api.Val{}) })
	change(func(c *api.Cmd) { c.H.Class++ })
	change(func(c *api.Cmd) { c.H.Size++ })
	change(func(c *api.Cmd) { c.H.Flags ^= 4 })
	change(func(c *api.Cmd) { c.H.Vals = append(c.H.Vals, api.Val{}) })
	change(func(c *api.Cmd) { c.Body += "\x00" })
	for i := range c.M.Args {
		change(func(c *api.Cmd) { c.M.Args[i].N++ })
		change(func(c *api.Cmd) { c.M.Args[i].S += "\x00" })
	}
	for i := range c.H.Vals {
		change(func(c *api.Cmd) { c.H.Vals[i].N++ })
		change(func(c *api.Cmd) { c.H.Vals[i].S += "\x00" })
	}
	if c.Body != "" {
		change(func(c *api.Cmd) { c.Body = c.Body[1:] })
		change(func(c *api.Cmd) { c.Body = c.Body[:len(c.Body)-1] + string([]byte{c.Body[len(c.Body)-1] + 1}) })
	}
	return l
}

// TestSame (P8.1): a copy is, each that differs in one thing isn't, right or not.
func TestSame(t *testing.T) {
	l := []api.Cmd{{}, {M: closeOk}, {M: tune}, {M: publish}, {M: ack, H: api.Head{Class: 60, Size: 9}, Body: "z"}, full(deliver, heads()[0], ""), full(publish, heads()[2], "hello"), full(getOk, heads()[4], mixed(5000))}
	for i, c := range l {
		for k, d := range l {
			if content.Same(c, clone(d)) != (i == k) {
				t.Errorf("Same of %s and %s: %v", shown(c), shown(d), i != k)
			}
		}
		for _, d := range others(c) {
			if content.Same(c, d) || content.Same(d, c) {
				t.Errorf("the same: %s and %s", shown(c), shown(d))
			}
		}
	}
	empty := api.Cmd{M: api.Method{Args: []api.Val{}}, H: api.Head{Vals: []api.Val{}}}
	if !content.Same(api.Cmd{}, empty) || !content.Same(empty, api.Cmd{}) {
		t.Error("lists without elements aren't the same")
	}
}

// P8.2

// isWhole holds that the frame makes the command whole, and that nothing is left of it.
func isWhole(t *testing.T, a api.Asm, f api.Frame, want api.Cmd) {
	t.Helper()
	b, c, is, e := content.Feed(a, f)
	if !equalAsm(b, api.Asm{}) || !equal(c, want) || !is || e != api.OK {
		t.Errorf("state %d, type %d: left in %d: %s; told %v, %d: %s; not %s", a.State, f.Type, b.State, shown(b.C), is, e, shown(c), shown(want))
	}
}

// waits holds that no command is told, and what is left.
func waits(t *testing.T, a api.Asm, f api.Frame, state int, want api.Cmd) api.Asm {
	t.Helper()
	b, c, is, e := content.Feed(a, f)
	if !equalAsm(b, api.Asm{State: state, C: want}) || !equal(c, api.Cmd{}) || is || e != api.OK {
		t.Errorf("state %d, type %d: left in %d: %s; told %v, %d: %s; not in %d: %s", a.State, f.Type, b.State, shown(b.C), is, e, shown(c), state, shown(want))
	}
	return b
}

// refused holds that the frame is, and that nothing is left or told.
func refused(t *testing.T, a api.Asm, f api.Frame, want api.Errno) {
	t.Helper()
	b, c, is, e := content.Feed(a, f)
	if !equalAsm(b, api.Asm{}) || !equal(c, api.Cmd{}) || is || e != want {
		t.Errorf("state %d, type %d, %.24q: left in %d: %s; told %v: %s; %d, not %d", a.State, f.Type, f.Data, b.State, shown(b.C), is, shown(c), e, want)
	}
}

// stale are commands that may be there ahead of a frame, right or not.
func stale() []api.Cmd {
	return []api.Cmd{{}, {M: ack}, {M: publish}, {M: of(1, 2, n(3))}, full(deliver, heads()[4], "hello"), {M: publish, H: heads()[1], Body: "old"}, {H: api.Head{Class: 60, Size: 5}, Body: "old"}, {Body: "old"}, {H: heads()[2]}}
}

// TestFeedMethod (P8.2): each method, whatever was there ahead of it.
func TestFeedMethod(t *testing.T) {
	for _, at := range sig.All() {
		m := anyOf(t, at[0], at[1])
		f := api.Frame{Type: 1, Chan: 3, Data: methodBytes(t, m)}
		for _, c := range stale() {
			a := api.Asm{State: api.AMethod, C: c}
			if sig.Content(at[0], at[1]) {
				waits(t, a, f, api.AHead, api.Cmd{M: m})
				continue
			}
			isWhole(t, a, f, api.Cmd{M: m})
		}
	}
	isWhole(t, api.Asm{}, api.Frame{Type: 1, Data: "\x00\x0a\x00\x33"}, api.Cmd{M: closeOk})
	isWhole(t, api.Asm{}, api.Frame{Type: 1, Data: "\x00\x3c\x00\x50\x00\x00\x00\x00\x00\x00\x00\x01\x00"}, api.Cmd{M: ack})
	waits(t, api.Asm{}, api.Frame{Type: 1, Data: "\x00\x3c\x00\x28\x00\x00\x01x\x01k\x01"}, api.AHead, api.Cmd{M: publish})
	isWhole(t, api.Asm{}, api.Frame{Type: 1, Data: methodBytes(t, challenge(131072))}, api.Cmd{M: challenge(131072)})
}

// TestFeedMethodRefused (P8.2): bytes that are no method.
func TestFeedMethodRefused(t *testing.T) {
	l := []string{"", "\x00", "zz", "\x00\x0a\x00", "\x00\x0a\x00\x33\x00", "\x00\x3c\x00\x29", "\x00\x3d\x00\x28\x00\x00\x01x\x01k\x01", "\x00\x3c\x00\x28\x00\x00\x01x\x01k\x05", "\x00\x3c\x00\x50\x00\x00\x00\x00\x00\x00\x00\x01\x02", "\x00\x0a\x00\x0b\x00\x00\x00\x01z\x00\x00\x00\x00\x00\x00",
		headBytes(t, heads()[0]), whole(2, 10) + whole(2, 20) + whole(4, 131073) + mixed(131073)}
	for _, m := range []api.Method{publish, deliver, tune, get} {
		b := methodBytes(t, m)
		for k := range len(b) {
			l = append(l, b[:k])
		}
		l = append(l, b+"\x00", b+b)
	}
	for _, data := range l {
		for _, c := range stale() {
			refused(t, api.Asm{State: api.AMethod, C: c}, api.Frame{Type: 1, Chan: 3, Data: data}, api.ErrSyntax)
		}
	}
}

// TestFeedHead (P8.2): the method that was there, that head, no body.
func TestFeedHead(t *testing.T) {
	for _, h := range heads() {
		for _, h.Size = range []uint64{0, 1, 5, 4088, 65535, 65536} {
			f := api.Frame{Type: 2, Chan: 3, Data: headBytes(t, h)}
			for _, c := range append(stale(), api.Cmd{M: returns}, api.Cmd{M: getOk}) {
				a, want := api.Asm{State: api.AHead, C: c}, api.Cmd{M: c.M, H: h}
				if h.Size == 0 {
					isWhole(t, a, f, want)
					continue
				}
				waits(t, a, f, api.ABody, want)
			}
		}
	}
	f := api.Frame{Type: 2, Data: "\x00\x3c\x00\x00\x00\x00\x00\x00\x00\x00\x00\x05\x80\x00\x03a/b"}
	waits(t, api.Asm{State: 1, C: api.Cmd{M: publish}}, f, 2, api.Cmd{M: publish, H: api.Head{Class: 60, Size: 5, Flags: 0x8000, Vals: []api.Val{s("a/b")}}})
}

// TestFeedHeadRefused (P8.2): with the error that chapter 7 tells.
func TestFeedHeadRefused(t *testing.T) {
	const begin = "\x00\x3c\x00\x00\x00\x00\x00\x00\x00\x00\x00\x05"
	l := []string{"", "z", begin, begin + "\x00", begin + "\x00\x00\x00", begin + "\x00\x01", begin + "\x00\x02", begin + "\x80\x00", begin + "\x80\x00\x03a/", begin + "\x80\x00\x03a/bc", begin + "\x20\x00\x00\x00\x00\x01z",
		"\x00\x32" + begin[2:] + "\x00\x00", "\x00\x3c\x00\x01" + begin[4:] + "\x00\x00", "\x00\x3d\x00\x00" + whole(8, 65537) + "\x00\x00", methodBytes(t, publish)}
	for _, c := range stale() {
		a := api.Asm{State: api.AHead, C: c}
		for _, data := range l {
			refused(t, a, api.Frame{Type: 2, Chan: 3, Data: data}, api.ErrSyntax)
		}
		for _, size := range []uint64{65537, 1 << 32, 1<<32 + 5, 1 << 63, math.MaxUint64} {
			refused(t, a, api.Frame{Type: 2, Chan: 3, Data: "\x00\x3c\x00\x00" + whole(8, size) + "\x00\x00"}, api.ErrBig)
			refused(t, a, api.Frame{Type: 2, Chan: 3, Data: "\x00\x3c\x00\x00" + whole(8, size) + "\x80\x00\x03a/b"}, api.ErrBig)
		}
	}
}

// TestFeedBody (P8.2): every Size up to 9 with every body that may be there and every one that comes.
func TestFeedBody(t *testing.T) {
	all := mixed(30)
	for size := range 10 {
		for had := range 13 {
			for came := range 13 {
				c := api.Cmd{M: deliver, H: heads()[2], Body: all[:had]}
				c.H.Size = uint64(size)
				a, f := api.Asm{State: api.ABody, C: c}, api.Frame{Type: 3, Chan: 3, Data: all[had : had+came]}
				c.Body = all[:had+came]
				switch {
				case had+came > size:
					refused(t, a, f, api.ErrFrame)
				case had+came == size:
					isWhole(t, a, f, c)
				default:
					waits(t, a, f, api.ABody, c)
				}
			}
		}
	}
}

// TestFeedBodyInPieces (P8.2): of all sizes, and one byte too many in the first frame, and in the last.
func TestFeedBodyInPieces(t *testing.T) {
	for _, k := range sizes[1:] {
		c := full(publish, heads()[4], mixed(k))
		begun := api.Asm{State: api.ABody, C: api.Cmd{M: c.M, H: c.H}}
		refused(t, begun, api.Frame{Type: 3, Data: c.Body + "z"}, api.ErrFrame)
		refused(t, begun, api.Frame{Type: 3, Data: c.Body + c.Body}, api.ErrFrame)
		isWhole(t, begun, api.Frame{Type: 3, Data: c.Body}, c)
		for _, cut := range []int{1, 2, 1000, 4088, k - 1, k / 2} {
			if cut < 1 || cut >= k || k/cut > 100 {
				continue
			}
			a, at := begun, 0
			for ; k-at > cut; at += cut {
				want := c
				want.Body = c.Body[:at+cut]
				a = waits(t, a, api.Frame{Type: 3, Data: c.Body[at : at+cut]}, api.ABody, want)
			}
			refused(t, a, api.Frame{Type: 3, Data: c.Body[at:] + "\x00"}, api.ErrFrame)
			isWhole(t, a, api.Frame{Type: 3, Data: c.Body[at:]}, c)
		}
	}
}

// TestFeedBodyOfGreatSize (P8.2): a Size above all that a head may tell, and one that no sum of lengths may go round to.
func TestFeedBodyOfGreatSize(t *testing.T) {
	for _, size := range []uint64{65537, 1 << 32, 1<<32 + 2, 1 << 63, math.MaxUint64} {
		c := api.Cmd{M: publish, H: api.Head{Class: 60, Size: size}, Body: "o"}
		want := c
		want.Body = "old"
		waits(t, api.Asm{State: api.ABody, C: c}, api.Frame{Type: 3, Data: "ld"}, api.ABody, want)
	}
	c := full(publish, heads()[0], mixed(200000))
	isWhole(t, api.Asm{State: api.ABody, C: api.Cmd{M: c.M, H: c.H, Body: c.Body[:100000]}}, api.Frame{Type: 3, Data: c.Body[100000:]}, c)
}

// TestFeedUnexpected (P8.2): each state with each type but its own, ahead of what the data is.
func TestFeedUnexpected(t *testing.T) {
	types := []int{math.MinInt, -1, 0, 1, 2, 3, 4, 5, 6, 7, 8, 9, 255, 256, 257, 258, 259, 1<<32 + 1, math.MaxInt}
	data := []string{"", "z", methodBytes(t, publish), methodBytes(t, ack), headBytes(t, heads()[0]), headBytes(t, api.Head{Class: 60, Size: 5}), mixed(65537)}
	for _, state := range []int{0, 1, 2} {
		for _, c := range append(stale(), api.Cmd{M: publish, H: api.Head{Class: 60, Size: 5}}) {
			for _, code := range types {
				if code == state+1 {
					continue
				}
				for _, d := range data {
					refused(t, api.Asm{State: state, C: c}, api.Frame{Type: code, Chan: 1, Data: d}, api.ErrUnexp)
				}
			}
		}
	}
}

// TestFeedStateThatIsNone (P8.2): ErrArg, whatever comes.
func TestFeedStateThatIsNone(t *testing.T) {
	for _, state := range []int{math.MinInt, -3, -2, -1, 3, 4, 8, 255, 256, 257, 1 << 32, 1<<32 + 1, math.MaxInt} {
		for _, c := range stale() {
			for code := -1; code < 10; code++ {
				for _, d := range []string{"", "z", "ld", methodBytes(t, ack), headBytes(t, heads()[0])} {
					refused(t, api.Asm{State: state, C: c}, api.Frame{Type: code, Chan: 1, Data: d}, api.ErrArg)
				}
			}
		}
	}
}

// TestFeedChannel (P8.2): which channel a frame is of says nothing here.
func TestFeedChannel(t *testing.T) {
	c := full(publish, heads()[2], "hello")
	for _, ch := range []int{math.MinInt, -1, 0, 1, 2, 65535, 65536, math.MaxInt} {
		isWhole(t, api.Asm{}, api.Frame{Type: 1, Chan: ch, Data: methodBytes(t, ack)}, api.Cmd{M: ack})
		a := waits(t, api.Asm{}, api.Frame{Type: 1, Chan: ch, Data: methodBytes(t, c.M)}, api.AHead, api.Cmd{M: c.M})
		a = waits(t, a, api.Frame{Type: 2, Chan: ch, Data: headBytes(t, c.H)}, api.ABody, api.Cmd{M: c.M, H: c.H})
		isWhole(t, a, api.Frame{Type: 3, Chan: ch, Data: c.Body}, c)
		refused(t, a, api.Frame{Type: 1, Chan: ch, Data: methodBytes(t, c.M)}, api.ErrUnexp)
	}
}

// TestFeedOnceMore (P8.2): what is left behind a whole command and behind an error takes the next command.
func TestFeedOnceMore(t *testing.T) {
	c := full(publish, heads()[2], "hello")
	m, h, b := api.Frame{Type: 1, Data: methodBytes(t, c.M)}, api.Frame{Type: 2, Data: headBytes(t, c.H)}, api.Frame{Type: 3, Data: c.Body}
	ok := api.Frame{Type: 1, Data: methodBytes(t, closeOk)}
	long := api.Frame{Type: 3, Data: "hello!"}
	a := api.Asm{}
	for i, x := range []struct {
		f     api.Frame
		told  *api.Cmd
		e     api.Errno
		state int
	}{
		{m, nil, api.OK, 1}, {h, nil, api.OK, 2}, {b, &c, api.OK, 0},
		{ok, &api.Cmd{M: closeOk}, api.OK, 0}, {m, nil, api.OK, 1}, {ok, nil, api.ErrUnexp, 0},
		{ok, &api.Cmd{M: closeOk}, api.OK, 0}, {h, nil, api.ErrUnexp, 0}, {b, nil, api.ErrUnexp, 0},
		{m, nil, api.OK, 1}, {h, nil, api.OK, 2}, {long, nil, api.ErrFrame, 0}, {b, nil, api.ErrUnexp, 0},
		{m, nil, api.OK, 1}, {h, nil, api.OK, 2}, {h, nil, api.ErrUnexp, 0},
		{m, nil, api.OK, 1}, {b, nil, api.ErrUnexp, 0}, {m, nil, api.OK, 1}, {h, nil, api.OK, 2}, {b, &c, api.OK, 0},
	} {
		next, told, is, e := content.Feed(a, x.f)
		a = next
		want := api.Cmd{}
		if x.told != nil {
			want = *x.told
		}
		if !equal(told, want) || is != (x.told != nil) || e != x.e || a.State != x.state || content.Idle(a) != (x.state == 0) {
			t.Errorf("step %d: told %v, %d, in %d: %s", i, is, e, a.State, shown(told))
		}
	}
}

// TestFeedLeavesWhatIsHandedIn (R3): nothing is written into it, and no list is shared.
func TestFeedLeavesWhatIsHandedIn(t *testing.T) {
	had := full(publish, heads()[4], "hello")
	had.Body = "he"
	for _, x := range []struct {
		state int
		f     api.Frame
	}{
		{0, api.Frame{Type: 1, Data: methodBytes(t, deliver)}}, {0, api.Frame{Type: 1, Data: methodBytes(t, ack)}},
		{1, api.Frame{Type: 2, Data: headBytes(t, heads()[2])}}, {1, api.Frame{Type: 2, Data: headBytes(t, api.Head{Class: 60, Size: 5})}},
		{2, api.Frame{Type: 3, Data: "l"}}, {2, api.Frame{Type: 3, Data: "llo"}}, {2, api.Frame{Type: 3, Data: "hello"}},
	} {
		c := clone(had)
		c.M.Args = append(make([]api.Val, 0, 20), c.M.Args...)
		c.H.Vals = append(make([]api.Val, 0, 20), c.H.Vals...)
		a, told, _, _ := content.Feed(api.Asm{State: x.state, C: c}, x.f)
		left, out := clone(a.C), clone(told)
		if !equal(c, had) {
			t.Errorf("state %d: written into: %s", x.state, shown(c))
		}
		for _, l := range [][]api.Val{c.M.Args, c.H.Vals} {
			for i := range l {
				l[i] = n(99)
			}
		}
		if !equal(a.C, left) || !equal(told, out) {
			t.Errorf("state %d: the answer shares memory with what was handed in", x.state)
		}
	}
}

// P8.3

// mosts are what most may be, and what it counts as.
var mosts = []struct{ most, counts int }{
	{math.MinInt, 4096}, {-1, 4096}, {0, 4096}, {1, 4096}, {8, 4096}, {9, 4096}, {4095, 4096}, {4096, 4096},
	{4097, 4097}, {4104, 4104}, {5000, 5000}, {65535, 65535}, {65536, 65536}, {65543, 65543}, {65544, 65544}, {131071, 131071},
	{131072, 131072}, {131073, 131072}, {131080, 131072}, {1 << 32, 131072}, {1<<32 + 5000, 131072}, {math.MaxInt, 131072},
}

// wanted are the frames that the chapter says of a right command.
func wanted(t *testing.T, c api.Cmd, ch, counts int) []api.Frame {
	t.Helper()
	l := []api.Frame{{Type: 1, Chan: ch, Data: methodBytes(t, c.M)}}
	if sig.Content(c.M.Class, c.M.Id) {
		l = append(l, api.Frame{Type: 2, Chan: ch, Data: headBytes(t, c.H)})
	}
	for at := 0; at < len(c.Body); at += counts - 8 {
		l = append(l, api.Frame{Type: 3, Chan: ch, Data: c.Body[at:min(at+counts-8, len(c.Body))]})
	}
	return l
}

// noFrames holds that Frames tells the error, and nothing beside it.
func noFrames(t *testing.T, c api.Cmd, ch, most int, want api.Errno) {
	t.Helper()
	if l, e := content.Frames(c, ch, most); len(l) != 0 || e != want {
		t.Errorf("Frames of %s, %d, %d: %s, %d, not %d", shown(c), ch, most, shownFrames(l), e, want)
	}
}

// areFrames holds that Frames tells those.
func areFrames(t *testing.T, c api.Cmd, ch, most int, want []api.Frame) {
	t.Helper()
	if l, e := content.Frames(c, ch, most); !slices.Equal(l, want) || e != api.OK {
		t.Errorf("Frames of %s, %d, %d: %s, %d, not %s", shown(c), ch, most, shownFrames(l), e, shownFrames(want))
	}
}

// TestFrames (P8.3): their bytes written out, the chapter's example among them.
func TestFrames(t *testing.T) {
	const publishing = "\x00\x3c\x00\x28\x00\x00\x01x\x01k\x01"
	areFrames(t, api.Cmd{M: closeOk}, 1, 4096, []api.Frame{{Type: 1, Chan: 1, Data: "\x00\x0a\x00\x33"}})
	areFrames(t, api.Cmd{M: ack}, 7, 4096, []api.Frame{{Type: 1, Chan: 7, Data: "\x00\x3c\x00\x50\x00\x00\x00\x00\x00\x00\x00\x01\x00"}})
	areFrames(t, full(publish, heads()[0], ""), 1, 4096, []api.Frame{
		{Type: 1, Chan: 1, Data: publishing}, {Type: 2, Chan: 1, Data: "\x00\x3c\x00\x00\x00\x00\x00\x00\x00\x00\x00\x00\x00\x00"},
	})
	areFrames(t, full(publish, heads()[1], "z"), 65535, 0, []api.Frame{
		{Type: 1, Chan: 65535, Data: publishing}, {Type: 2, Chan: 65535, Data: "\x00\x3c\x00\x00\x00\x00\x00\x00\x00\x00\x00\x01\x80\x00\x03a/b"}, {Type: 3, Chan: 65535, Data: "z"},
	})
	body := mixed(5000)
	areFrames(t, full(publish, heads()[0], body), 2, 4096, []api.Frame{
		{Type: 1, Chan: 2, Data: publishing}, {Type: 2, Chan: 2, Data: "\x00\x3c\x00\x00\x00\x00\x00\x00\x00\x00\x13\x88\x00\x00"},
		{Type: 3, Chan: 2, Data: body[:4088]}, {Type: 3, Chan: 2, Data: body[4088:]},
	})
	areFrames(t, full(publish, heads()[0], mixed(4088)), 2, 4096, []api.Frame{
		{Type: 1, Chan: 2, Data: publishing}, {Type: 2, Chan: 2, Data: "\x00\x3c\x00\x00\x00\x00\x00\x00\x00\x00\x0f\xf8\x00\x00"}, {Type: 3, Chan: 2, Data: mixed(4088)},
	})
}

// TestFramesOfAll (P8.3): each right command with each most.
func TestFramesOfAll(t *testing.T) {
	for _, x := range mosts {
		for _, c := range rights() {
			areFrames(t, c, 9, x.most, wanted(t, c, 9, x.counts))
		}
		for _, k := range []int{x.counts - 9, x.counts - 8, x.counts - 7, 2 * (x.counts - 8), 2*(x.counts-8) + 1} {
			if k <= 65536 {
				c := full(deliver, heads()[2], mixed(k))
				areFrames(t, c, 9, x.most, wanted(t, c, 9, x.counts))
			}
		}
	}
}

// TestFramesOfEachMethod (P8.3): a head is laid just where a content follows.
func TestFramesOfEachMethod(t *testing.T) {
	for _, at := range sig.All() {
		c := api.Cmd{M: anyOf(t, at[0], at[1])}
		if sig.Content(at[0], at[1]) {
			noFrames(t, c, 1, 4096, api.ErrSyntax)
			c = full(c.M, heads()[1], "hello")
		}
		areFrames(t, c, 1, 4096, wanted(t, c, 1, 4096))
	}
}

// TestFramesChannel (P8.3): 1 to 65535.
func TestFramesChannel(t *testing.T) {
	for _, c := range []api.Cmd{{M: closeOk}, {M: ack}, full(publish, heads()[0], ""), full(publish, heads()[2], mixed(5000))} {
		for _, ch := range []int{1, 2, 255, 256, 65534, 65535} {
			areFrames(t, c, ch, 4096, wanted(t, c, ch, 4096))
		}
		for _, ch := range []int{math.MinInt, -65535, -1, 0, 65536, 65537, 1 << 32, 1<<32 + 1, math.MaxInt} {
			noFrames(t, c, ch, 4096, api.ErrArg)
		}
	}
}

// headOf is a head of k bytes in all, which are 26 at least.
func headOf(k int) api.Head {
	return api.Head{Class: 60, Flags: 0x2000, Vals: []api.Val{s(tableOf(k - 14))}}
}

// TestFramesBig (P8.3): a method, or a head, of as many bytes as a piece may have, and of one more.
func TestFramesBig(t *testing.T) {
	for _, x := range mosts {
		room := x.counts - 8
		for _, k := range []int{room - 1, room} {
			for _, c := range []api.Cmd{{M: challenge(k)}, full(publish, headOf(k), ""), full(publish, headOf(k), "hello"), full(getOk, headOf(k), mixed(65536))} {
				areFrames(t, c, 1, x.most, wanted(t, c, 1, x.counts))
			}
		}
		for _, k := range []int{room + 1, room + 2, room + 7, room + 8, 131072, 131080} {
			if k <= room {
				continue
			}
			noFrames(t, api.Cmd{M: challenge(k)}, 1, x.most, api.ErrBig)
			for _, body := range []string{"", "hello", mixed(65536)} {
				noFrames(t, full(publish, headOf(k), body), 1, x.most, api.ErrBig)
			}
		}
	}
}

// TestFramesFirstError (P8.3): Right's, then that of the channel, then that of what is too great.
func TestFramesFirstError(t *testing.T) {
	for _, ch := range []int{-1, 0, 1, 65535, 65536} {
		for _, most := range []int{0, 4096, math.MaxInt} {
			for e, l := range wrongMethods() {
				for _, m := range l {
					noFrames(t, api.Cmd{M: m}, ch, most, e)
					noFrames(t, full(m, headOf(140000), "hello"), ch, most, e)
				}
			}
			for e, l := range wrongHeads() {
				for _, h := range l {
					noFrames(t, api.Cmd{M: publish, H: h, Body: "hello"}, ch, most, e)
				}
			}
			noFrames(t, api.Cmd{M: publish, H: headOf(140000), Body: "hello"}, ch, most, api.ErrForm)
			noFrames(t, api.Cmd{M: challenge(131080), Body: "hello"}, ch, most, api.ErrForm)
			want := api.ErrBig
			if ch < 1 || ch > 65535 {
				want = api.ErrArg
			}
			noFrames(t, api.Cmd{M: challenge(131080)}, ch, most, want)
			noFrames(t, full(publish, headOf(140000), "hello"), ch, most, want)
		}
	}
}

// TestFramesLeaveWhatIsHandedIn (R3).
func TestFramesLeaveWhatIsHandedIn(t *testing.T) {
	had := full(publish, heads()[4], mixed(5000))
	c := clone(had)
	one, _ := content.Frames(c, 1, 4096)
	two, _ := content.Frames(c, 1, 4096)
	want := slices.Clone(two)
	for i := range one {
		one[i] = api.Frame{}
	}
	c.M.Args[0], c.H.Vals[0] = n(9), s("z")
	if !slices.Equal(two, want) {
		t.Error("two answers share memory")
	}
	c.M.Args[0], c.H.Vals[0] = had.M.Args[0], had.H.Vals[0]
	if !equal(c, had) {
		t.Errorf("written into: %s", shown(c))
	}
}

// P8.4

// comesOut holds that frames are a command, whole with the last of them and not ahead of it.
func comesOut(t *testing.T, l []api.Frame, c api.Cmd) {
	t.Helper()
	a := api.Asm{}
	for i, f := range l {
		next, told, is, e := content.Feed(a, f)
		a = next
		if e != api.OK || is != (i == len(l)-1) || content.Idle(a) != is {
			t.Errorf("frame %d of %d: %v %d, in %d", i, len(l), is, e, a.State)
		}
		if is && (!equal(told, c) || !content.Same(told, c)) {
			t.Errorf("%s, not %s", shown(told), shown(c))
		}
	}
	if !equalAsm(a, api.Asm{}) {
		t.Errorf("left in %d: %s", a.State, shown(a.C))
	}
}

// TestCutAndWhole (P8.4): each right command, each most; the frames are such that chapter 4 lays, and takes with that most.
func TestCutAndWhole(t *testing.T) {
	for _, x := range mosts {
		for _, c := range append(rights(), api.Cmd{M: challenge(x.counts - 8)}, full(publish, headOf(x.counts-8), mixed(5000))) {
			l, e := content.Frames(c, 9, x.most)
			if e != api.OK {
				t.Fatalf("%s: %d", shown(c), e)
			}
			comesOut(t, l, c)
			var laid strings.Builder
			for _, f := range l {
				b, e := frame.Bytes(f)
				if e != api.OK {
					t.Fatalf("type %d of %d bytes: %d", f.Type, len(f.Data), e)
				}
				laid.WriteString(b)
			}
			taken, rest, e := frame.Split(laid.String(), x.most)
			if rest != "" || e != api.OK {
				t.Errorf("%s: rest %.24q, %d", shown(c), rest, e)
			}
			comesOut(t, taken, c)
		}
	}
}

// TestCutInTurns (P8.4): two channels' frames by turns, each with what it waits for.
func TestCutInTurns(t *testing.T) {
	one, two := full(publish, heads()[4], mixed(20000)), full(deliver, heads()[1], mixed(9000))
	l, _ := content.Frames(one, 1, 4096)
	k, _ := content.Frames(two, 2, 5000)
	var waiting [3]api.Asm
	var out [3][]api.Cmd
	for i := range max(len(l), len(k)) {
		var turn []api.Frame
		turn = append(turn, l[min(i, len(l)):min(i+1, len(l))]...)
		turn = append(turn, k[min(i, len(k)):min(i+1, len(k))]...)
		for _, f := range turn {
			a, c, is, e := content.Feed(waiting[f.Chan], f)
			if e != api.OK {
				t.Fatalf("channel %d: %d", f.Chan, e)
			}
			waiting[f.Chan] = a
			if is {
				out[f.Chan] = append(out[f.Chan], c)
			}
		}
	}
	if len(out[1]) != 1 || len(out[2]) != 1 || !equal(out[1][0], one) || !equal(out[2][0], two) {
		t.Errorf("%d and %d commands", len(out[1]), len(out[2]))
	}
}

// TestCutByChance (P8.4): many commands one behind the other on one channel, each with a most of its own; the numbers are the same in each run.
func TestCutByChance(t *testing.T) {
	r := rand.New(rand.NewSource(8))
	var sent, got []api.Cmd
	a := api.Asm{}
	for range 400 {
		c := api.Cmd{M: without[r.Intn(len(without))]}
		if r.Intn(4) > 0 {
			c = full(withContent[r.Intn(4)], heads()[r.Intn(5)], mixed(r.Intn(30000)*r.Intn(2)))
		}
		sent = append(sent, c)
		l, e := content.Frames(c, 1+r.Intn(65535), r.Intn(20000))
		if e != api.OK {
			t.Fatalf("%s: %d", shown(c), e)
		}
		for _, f := range l {
			next, told, is, e := content.Feed(a, f)
			if e != api.OK {
				t.Fatalf("%s: %d", shown(c), e)
			}
			a = next
			if is {
				got = append(got, told)
			}
		}
	}
	if !slices.EqualFunc(sent, got, equal) {
		t.Errorf("%d commands out of %d", len(got), len(sent))
	}
}
