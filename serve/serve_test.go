package serve_test

import (
	"math"
	"slices"
	"strings"
	"testing"

	"interchange/api"
	"interchange/code"
	"interchange/method"
	"interchange/serve"
	"interchange/sig"
	"interchange/text"
)

const none = "\x00\x00\x00\x00" // the empty table

func n(v uint64) api.Val { return api.Val{N: v} }

func s(v string) api.Val { return api.Val{S: v} }

// conn is a method of the connection.
func conn(id int, l ...api.Val) api.Method { return api.Method{Class: 10, Id: id, Args: l} }

func startOk(mechanism, answer string) api.Method {
	return conn(11, s(none), s(mechanism), s(answer), s("en_US"))
}

func tuneOk(chans, frame, beat uint64) api.Method { return conn(31, n(chans), n(frame), n(beat)) }

func open(host string) api.Method { return conn(40, s(host), s(""), n(0)) }

var (
	shut   = conn(50, n(200), s("bye"), n(0), n(0))
	shutOk = conn(51)
)

// at is a connection in a state, with something in every field.
func at(state int) api.Hand {
	return api.Hand{State: state, T: api.Tune{Chans: 100, Frame: 8192, Beat: 60}, User: "who", Word: "secret", Host: "/there"}
}

// states are all, and numbers that are none: below the first and behind the last.
var states = []int{0, 1, 2, 3, 4, 5, 6, math.MinInt, -256, -7, -1, 7, 8, 256, 262, 1 << 32, 1<<32 + 4, math.MaxInt}

// said holds what was said against what is wanted, and that it is right (P10.4).
func said(t *testing.T, what string, got, want []api.Method) {
	t.Helper()
	if !slices.EqualFunc(got, want, method.Same) {
		t.Errorf("%s: said %#v, not %#v", what, got, want)
	}
	for _, m := range got {
		if e := method.Right(m); e != api.OK {
			t.Errorf("%s: %#v isn't right: %d", what, m, e)
		}
		if sig.Side(m.Class, m.Id)&2 == 0 {
			t.Errorf("%s: %#v is none of a server", what, m)
		}
	}
}

// takes holds one Take against what is wanted of it, and that what it was given is as it was.
func takes(t *testing.T, h api.Hand, m api.Method, hand api.Hand, l []api.Method, e api.Errno) {
	t.Helper()
	args := slices.Clone(m.Args)
	k, out, err := serve.Take(h, m)
	if k != hand || err != e {
		t.Errorf("Take(%+v, %d %d, %d values): %+v, %d, not %+v, %d", h, m.Class, m.Id, len(m.Args), k, err, hand, e)
	}
	said(t, "Take", out, l)
	if !slices.Equal(args, m.Args) {
		t.Errorf("Take(%+v) changed what it was given", h)
	}
}

// refused holds that a method is refused: nothing is said, and the hand is as it was.
func refused(t *testing.T, h api.Hand, m api.Method, e api.Errno) {
	t.Helper()
	takes(t, h, m, h, nil, e)
}

// P10.1

// edges are numbers at and about the bounds of a tune.
var edges = []int{math.MinInt, -65536, -1, 0, 1, 2, 100, 4095, 4096, 4097, 65534, 65535, 65536, 65537, 131071, 131072, 131073, 1<<32 + 1, 1<<32 + 4096, math.MaxInt}

func maybe(c, f, b int) bool {
	return c > 0 && c < 65536 && f > 4095 && f < 131073 && b > -1 && b < 65536
}

func TestRightAndBegin(t *testing.T) {
	for _, c := range edges {
		for _, f := range edges {
			for _, b := range edges {
				tune := api.Tune{Chans: c, Frame: f, Beat: b}
				if is := serve.Right(tune); is != maybe(c, f, b) {
					t.Errorf("Right(%+v): %v", tune, is)
				}
				want, e := api.Hand{}, api.ErrArg
				if maybe(c, f, b) {
					want, e = api.Hand{State: api.HHeader, T: tune}, api.OK
				}
				if h, err := serve.Begin(tune); h != want || err != e {
					t.Errorf("Begin(%+v): %+v, %d", tune, h, err)
				}
			}
		}
	}
}

// TestRightWrittenOut (P10.1): each number below, at and above its bounds.
func TestRightWrittenOut(t *testing.T) {
	for _, x := range []struct {
		t  api.Tune
		is bool
	}{
		{api.Tune{Chans: 1, Frame: 4096, Beat: 0}, true},
		{api.Tune{Chans: 65535, Frame: 131072, Beat: 65535}, true},
		{api.Tune{Chans: 2047, Frame: 131072, Beat: 60}, true},
		{api.Tune{Chans: 0, Frame: 4096, Beat: 0}, false},
		{api.Tune{Chans: 65536, Frame: 4096, Beat: 0}, false},
		{api.Tune{Chans: 1, Frame: 0, Beat: 0}, false},
		{api.Tune{Chans: 1, Frame: 4095, Beat: 0}, false},
		{api.Tune{Chans: 1, Frame: 131073, Beat: 0}, false},
		{api.Tune{Chans: 1, Frame: 4096, Beat: -1}, false},
		{api.Tune{Chans: 1, Frame: 4096, Beat: 65536}, false},
		{api.Tune{}, false},
	} {
		if is := serve.Right(x.t); is != x.is {
			t.Errorf("Right(%+v): %v", x.t, is)
		}
	}
}

func TestGreet(t *testing.T) {
	for _, state := range states {
		h := at(state)
		want, l, e := h, []api.Method(nil), api.ErrWhen
		if state == 0 {
			want.State, e = 1, api.OK
			l = []api.Method{conn(10, n(0), n(9), s("\x00\x00\x00\x00"), s("PLAIN"), s("en_US"))}
		}
		k, out, err := serve.Greet(h)
		if k != want || err != e {
			t.Errorf("Greet(%+v): %+v, %d", h, k, err)
		}
		said(t, "Greet", out, l)
	}
}

func TestEmpty(t *testing.T) {
	if e := serve.Empty(); e != "\x00\x00\x00\x00" {
		t.Errorf("Empty(): %q", e)
	}
}

// P10.2

// TestStartOk: PLAIN and other words, and what is asked for first.
func TestStartOk(t *testing.T) {
	for _, answer := range []string{"", "\x00", "u", "u\x00p", "\x00u", "u\x00p\x00", "\x00u\x00p\x00", "\x00\x00\x00", "a\x00u\x00p", strings.Repeat("\x00", 9), "\x00\x00", "\x00u\x00p", "\x00\x00p", "\x00u\x00", "\x00me\x00pw", "\x00\xff\xfe\x00ä", "\x00" + strings.Repeat("u", 70000) + "\x00" + strings.Repeat("p", 61070)} {
		user, word, is := text.Pairs(answer)
		h := at(api.HStart)
		if !is {
			refused(t, h, startOk("PLAIN", answer), api.ErrSyntax)
		} else {
			k := h
			k.State, k.User, k.Word = api.HTune, user, word
			takes(t, h, startOk("PLAIN", answer), k, []api.Method{conn(30, n(100), n(8192), n(60))}, api.OK)
		}
		for _, mechanism := range []string{"", "plain", "Plain", "PLAI", "PLAIN ", " PLAIN", "PLAINX", "PLAIN\x00", "AMQPLAIN", "PLAIN AMQPLAIN", "EXTERNAL", strings.Repeat("P", 255)} {
			refused(t, h, startOk(mechanism, answer), api.ErrThere)
		}
	}
	// What is told beside it doesn't matter: a table with a field, another locale.
	k := at(api.HTune)
	k.User, k.Word = "me", "pw"
	m := conn(11, s("\x00\x00\x00\x04\x01at\x01"), s("PLAIN"), s("\x00me\x00pw"), s("de_DE"))
	takes(t, at(api.HStart), m, k, []api.Method{conn(30, n(100), n(8192), n(60))}, api.OK)
}

// TestTuneSaid (P10.2, P10.4): tunes at the edges are told as they are.
func TestTuneSaid(t *testing.T) {
	for _, c := range edges {
		for _, f := range edges {
			for _, b := range edges {
				if h := at(api.HStart); maybe(c, f, b) {
					h.T = api.Tune{Chans: c, Frame: f, Beat: b}
					k := h
					k.State, k.User, k.Word = api.HTune, "u", ""
					takes(t, h, startOk("PLAIN", "\x00u\x00"), k, []api.Method{conn(30, n(uint64(c)), n(uint64(f)), n(uint64(b)))}, api.OK)
				}
			}
		}
	}
}

// agreed is what the chapter says of tune-ok.
func agreed(t api.Tune, c, f, b int) (api.Tune, bool) {
	if c > t.Chans || f > t.Frame || f != 0 && f < 4096 {
		return api.Tune{}, false
	}
	if c != 0 {
		t.Chans = c
	}
	if f != 0 {
		t.Frame = f
	}
	if b < t.Beat {
		t.Beat = b
	}
	return t, true
}

func TestTuneOk(t *testing.T) {
	for _, tune := range []api.Tune{{Chans: 1, Frame: 4096}, {Chans: 100, Frame: 8192, Beat: 60}, {Chans: 65535, Frame: 131072, Beat: 65535}, {Chans: 2047, Frame: 4097, Beat: 1}} {
		h := at(api.HTune)
		h.T = tune
		for _, c := range []int{0, 1, 2, 99, 100, 101, 2046, 2047, 2048, 65534, 65535} {
			for _, f := range []int{0, 1, 2, 100, 4095, 4096, 4097, 4098, 8191, 8192, 8193, 131071, 131072, 131073, 1 << 31, 1<<32 - 1} {
				for _, b := range []int{0, 1, 2, 59, 60, 61, 65534, 65535} {
					m := tuneOk(uint64(c), uint64(f), uint64(b))
					if a, is := agreed(tune, c, f, b); is {
						k := h
						k.State, k.T = api.HOpen, a
						takes(t, h, m, k, nil, api.OK)
						if !serve.Right(k.T) {
							t.Errorf("%+v may not be", k.T)
						}
					} else {
						refused(t, h, m, api.ErrThere)
					}
				}
			}
		}
	}
}

// TestTuneOkWrittenOut (P10.2): of 100 channels, frames of 8192, beats of 60.
func TestTuneOkWrittenOut(t *testing.T) {
	for _, x := range []struct {
		c, f, b uint64
		want    api.Tune
		is      bool
	}{
		{0, 0, 0, api.Tune{Chans: 100, Frame: 8192, Beat: 0}, true},
		{100, 8192, 60, api.Tune{Chans: 100, Frame: 8192, Beat: 60}, true},
		{99, 8191, 59, api.Tune{Chans: 99, Frame: 8191, Beat: 59}, true},
		{1, 4096, 61, api.Tune{Chans: 1, Frame: 4096, Beat: 60}, true},
		{0, 4096, 1, api.Tune{Chans: 100, Frame: 4096, Beat: 1}, true},
		{1, 0, 65535, api.Tune{Chans: 1, Frame: 8192, Beat: 60}, true},
		{101, 8192, 60, api.Tune{}, false},
		{101, 0, 0, api.Tune{}, false},
		{100, 8193, 60, api.Tune{}, false},
		{0, 8193, 0, api.Tune{}, false},
		{0, 4095, 0, api.Tune{}, false},
		{0, 1, 0, api.Tune{}, false},
	} {
		h := at(api.HTune)
		k := h
		if k.State, k.T = api.HOpen, x.want; x.is {
			takes(t, h, tuneOk(x.c, x.f, x.b), k, nil, api.OK)
		} else {
			refused(t, h, tuneOk(x.c, x.f, x.b), api.ErrThere)
		}
	}
	for _, b := range []uint64{0, 1, 65535} {
		for _, mine := range []int{0, -1} { // -1 may not be: that one of 0 makes 0 holds even there
			h := at(api.HTune)
			h.T.Beat = mine
			k := h
			if k.State = api.HOpen; b == 0 {
				k.T.Beat = 0
			}
			takes(t, h, tuneOk(0, 0, b), k, nil, api.OK)
		}
	}
}

func TestOpen(t *testing.T) {
	for _, host := range []string{"", "/", "there", "\x00\xff", strings.Repeat("h", 255)} {
		for _, m := range []api.Method{open(host), conn(40, s(host), s("old"), n(1))} {
			h := at(api.HOpen)
			k := h
			k.State, k.Host = api.HRun, host
			takes(t, h, m, k, []api.Method{conn(41, s(""))}, api.OK)
		}
	}
}

// TestClose (P10.2): close and close-ok in every state.
func TestClose(t *testing.T) {
	for _, state := range states {
		h := at(state)
		gone := h
		gone.State = api.HClosed
		for _, m := range []api.Method{shut, conn(50, n(0), s(""), n(60), n(40)), conn(50, n(65535), s(strings.Repeat("x", 255)), n(65535), n(65535))} {
			switch state {
			case api.HStart, api.HTune, api.HOpen, api.HRun:
				takes(t, h, m, gone, []api.Method{conn(51)}, api.OK)
			case api.HClosing:
				takes(t, h, m, h, []api.Method{conn(51)}, api.OK)
			case api.HClosed:
				takes(t, h, m, h, nil, api.OK)
			default:
				refused(t, h, m, api.ErrWhen)
			}
		}
		switch state {
		case api.HClosing:
			takes(t, h, shutOk, gone, nil, api.OK)
		case api.HClosed:
			takes(t, h, shutOk, h, nil, api.OK)
		default:
			refused(t, h, shutOk, api.ErrWhen)
		}
	}
}

// some is a right method: numbers of v, texts of one letter, tables without fields.
func some(at [2]int, v uint64) api.Method {
	m := api.Method{Class: at[0], Id: at[1]}
	letters, _ := sig.Of(at[0], at[1])
	for _, c := range letters {
		switch c {
		case 'S', 'L':
			m.Args = append(m.Args, s("x"))
		case 'T':
			m.Args = append(m.Args, s(none))
		default:
			m.Args = append(m.Args, n(v))
		}
	}
	return m
}

// waited: which method of the connection a state waits for; 0, if for none.
var waited = map[int]int{1: 11, 2: 31, 3: 40}

// TestEachMethod (P10.2): every method in every state, beside those that the other tests hold.
func TestEachMethod(t *testing.T) {
	for _, place := range sig.All() {
		for _, v := range []uint64{0, 1} {
			m := some(place, v)
			if e := method.Right(m); e != api.OK {
				t.Fatalf("%+v isn't right", m)
			}
			for _, state := range states {
				id := m.Id
				if m.Class == 10 && (id == 50 || id == 51 || id == waited[state]) {
					continue
				}
				if state == api.HClosing || state == api.HClosed {
					takes(t, at(state), m, at(state), nil, api.OK)
				} else {
					refused(t, at(state), m, api.ErrWhen)
				}
			}
		}
	}
}

// wrongs are methods that aren't right.
func wrongs() []api.Method {
	l := []api.Method{{}, {Class: -10, Id: 50}, {Class: 10}, {Class: 10, Id: 12}, {Class: 10, Id: -51}, {Class: 10 + 1<<32, Id: 51}, {Class: 10, Id: 51 + 1<<32}, {Class: math.MinInt, Id: math.MaxInt},
		conn(51, n(0)),
		conn(50), conn(50, n(65536), s("bye"), n(0), n(0)), conn(50, n(200), s(strings.Repeat("x", 256)), n(0), n(0)), conn(50, s("200"), s("bye"), n(0), n(0)), conn(50, n(200), s("bye"), n(0)), conn(50, n(200), s("bye"), n(0), n(0), n(0)),
		conn(11, s(none), s("PLAIN"), s("\x00u\x00p")), conn(11, s(""), s("PLAIN"), s("\x00u\x00p"), s("en_US")), conn(11, s(none), s("PLAIN"), s("\x00u\x00p"), n(1)), conn(11, s(none), s("PLAIN"), s("\x00u\x00"+strings.Repeat("p", 131070)), s("en_US")),
		conn(11, s("\x00\x00\x00\x01"), s("X"), s("y"), s("")),
		tuneOk(65536, 0, 0), tuneOk(0, 1<<32, 0), tuneOk(0, 0, 65536), conn(31), conn(31, n(1), n(4096)), conn(31, n(1), n(4096), s("60")), conn(31, n(1), n(4096), n(0), n(0)), tuneOk(math.MaxUint64, 0, 0),
		conn(40), conn(40, s("/"), s("")), conn(40, s("/"), s(""), n(2)), conn(40, s(strings.Repeat("h", 256)), s(""), n(0)), conn(40, n(1), s(""), n(0)),
	}
	for _, place := range sig.All() {
		m := some(place, 0)
		l = append(l, api.Method{Class: m.Class, Id: m.Id, Args: append(slices.Clone(m.Args), n(0))})
		if len(m.Args) > 0 {
			l = append(l, api.Method{Class: m.Class, Id: m.Id, Args: m.Args[1:]})
		}
	}
	return l
}

// TestWrongMethods (P10.2): what isn't right is refused as such in every state, whatever else is wrong with it.
func TestWrongMethods(t *testing.T) {
	for _, m := range wrongs() {
		if method.Right(m) == api.OK {
			t.Fatalf("%#v is right", m)
		}
		for _, state := range states {
			refused(t, at(state), m, api.ErrSyntax)
		}
	}
}

// P10.3

func TestShut(t *testing.T) {
	places := append(sig.All(), [][2]int{{0, 0}, {60, 41}, {10, 52}, {-60, 40}, {60 + 1<<16, 40}, {60, 40 + 1<<32}, {math.MinInt, math.MaxInt}, {65536, 65536}}...)
	errors := []api.Errno{-1, 17, math.MinInt, math.MaxInt}
	for e := range api.Errno(17) {
		errors = append(errors, e)
	}
	for _, state := range states {
		for _, e := range errors {
			for _, place := range places {
				h := at(state)
				want, l := h, []api.Method(nil)
				if state != 5 && state != 6 {
					m := code.Close(e, place[0], place[1])
					want.State, l = 5, []api.Method{conn(50, m.Args...)}
				}
				k, out := serve.Shut(h, e, place[0], place[1])
				if k != want {
					t.Errorf("Shut(%+v, %d, %v): %+v", h, e, place, k)
				}
				said(t, "Shut", out, l)
			}
		}
	}
}

// TestShutWrittenOut (P10.3): errors whose code is hard, and others; a method's class and id, and such as are none's.
func TestShutWrittenOut(t *testing.T) {
	for _, x := range []struct {
		e         api.Errno
		class, id int
		want      api.Method
	}{
		{api.ErrSyntax, 10, 11, conn(50, n(502), s("SYNTAX_ERROR"), n(10), n(11))},
		{api.ErrThere, 10, 31, conn(50, n(530), s("NOT_ALLOWED"), n(10), n(31))},
		{api.ErrPeer, 0, 0, conn(50, n(320), s("CONNECTION_FORCED"), n(0), n(0))},
		{api.ErrFrame, 60, 41, conn(50, n(501), s("FRAME_ERROR"), n(0), n(0))},
		{api.ErrTag, 60, 80, conn(50, n(406), s("PRECONDITION_FAILED"), n(60), n(80))},
		{api.ErrNone, 60, 20, conn(50, n(404), s("NOT_FOUND"), n(60), n(20))},
		{api.ErrBig, 7, 7, conn(50, n(311), s("CONTENT_TOO_LARGE"), n(0), n(0))},
		{api.OK, 0, 0, conn(50, n(200), s("REPLY_SUCCESS"), n(0), n(0))},
		{-1, -1, -1, conn(50, n(541), s("INTERNAL_ERROR"), n(0), n(0))},
	} {
		for _, state := range []int{0, 1, 2, 3, 4} {
			k, l := serve.Shut(at(state), x.e, x.class, x.id)
			if k != at(api.HClosing) {
				t.Errorf("Shut(%d): %+v", x.e, k)
			}
			said(t, "Shut", l, []api.Method{x.want})
		}
	}
}

// P10.4

// events are what may come to a connection: each tells where it leads, and what is said.
func events() []func(api.Hand) (api.Hand, []api.Method) {
	l := []func(api.Hand) (api.Hand, []api.Method){
		func(h api.Hand) (api.Hand, []api.Method) { k, out, _ := serve.Greet(h); return k, out },
		func(h api.Hand) (api.Hand, []api.Method) { return serve.Shut(h, api.ErrTag, 60, 80) },
		func(h api.Hand) (api.Hand, []api.Method) { return serve.Shut(h, api.ErrFrame, 60, 81) },
	}
	for _, m := range []api.Method{startOk("PLAIN", "\x00u\x00p"), startOk("X", ""), tuneOk(0, 0, 0), tuneOk(3, 4096, 9), tuneOk(65535, 1, 0), open("/"), shut, shutOk, conn(10), some([2]int{60, 40}, 0)} {
		l = append(l, func(h api.Hand) (api.Hand, []api.Method) { k, out, _ := serve.Take(h, m); return k, out })
	}
	return l
}

// TestRises (P10.4): through all rows of events that lead somewhere, from the beginning on, where it is only rises, and what is said is right.
func TestRises(t *testing.T) {
	first, _ := serve.Begin(api.Tune{Chans: 10, Frame: 8192, Beat: 30})
	seen := map[api.Hand]bool{first: true}
	for work := []api.Hand{first}; len(work) > 0; work = work[1:] {
		for i, ev := range events() {
			k, l := ev(work[0])
			if k.State < work[0].State || k.State > api.HClosed {
				t.Errorf("event %d leads from %+v to %+v", i, work[0], k)
			}
			said(t, "event", l, l)
			if len(l) > 1 || !serve.Right(k.T) {
				t.Errorf("event %d leads from %+v to %+v, and says %+v", i, work[0], k, l)
			}
			if !seen[k] {
				seen[k] = true
				work = append(work, k)
			}
		}
	}
	for state := range api.HClosed + 1 {
		there := false
		for h := range seen {
			there = there || h.State == state
		}
		if !there {
			t.Errorf("no row of events leads to %d", state)
		}
	}
}

// TestWhole (P10.1 to P10.4): one connection from its beginning to its end.
func TestWhole(t *testing.T) {
	h, _ := serve.Begin(api.Tune{Chans: 10, Frame: 8192, Beat: 30})
	h, l, e := serve.Greet(h)
	if e != api.OK || len(l) != 1 {
		t.Fatal(l, e)
	}
	for i, x := range []struct {
		m     api.Method
		state int
		says  []int
	}{
		{startOk("PLAIN", "\x00me\x00pw"), api.HTune, []int{30}},
		{tuneOk(0, 4096, 60), api.HOpen, nil},
		{open("/"), api.HRun, []int{41}},
		{shut, api.HClosed, []int{51}},
		{shut, api.HClosed, nil},
	} {
		h, l, e = serve.Take(h, x.m)
		var ids []int
		for _, m := range l {
			ids = append(ids, m.Id)
		}
		if e != api.OK || h.State != x.state || !slices.Equal(ids, x.says) {
			t.Errorf("%d: %+v, %+v, %d", i, h, l, e)
		}
	}
	if h != (api.Hand{State: api.HClosed, T: api.Tune{Chans: 10, Frame: 4096, Beat: 30}, User: "me", Word: "pw", Host: "/"}) {
		t.Errorf("%+v", h)
	}
}

// TestAnswersAreNew (R3, R4): whoever changes what was said changes no later answer.
func TestAnswersAreNew(t *testing.T) {
	for _, say := range []func() []api.Method{
		func() []api.Method { _, l, _ := serve.Greet(at(api.HHeader)); return l },
		func() []api.Method {
			_, l, _ := serve.Take(at(api.HStart), startOk("PLAIN", "\x00u\x00p"))
			return l
		},
		func() []api.Method { _, l, _ := serve.Take(at(api.HOpen), open("/")); return l },
		func() []api.Method { _, l, _ := serve.Take(at(api.HRun), shut); return l },
		func() []api.Method { _, l := serve.Shut(at(api.HRun), api.ErrTag, 60, 80); return l },
	} {
		first, want := say(), say()
		for i := range first[0].Args {
			first[0].Args[i] = api.Val{N: 99, S: "changed"}
		}
		first[0] = api.Method{}
		if l := say(); !slices.EqualFunc(l, want, method.Same) {
			t.Errorf("%+v, not %+v", l, want)
		}
	}
}
