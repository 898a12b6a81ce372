package dial_test

import (
	"math"
	"slices"
	"strings"
	"testing"

	"interchange/api"
	"interchange/dial"
	"interchange/method"
	"interchange/serve"
	"interchange/sig"
)

const none = "\x00\x00\x00\x00" // the empty table

func n(v uint64) api.Val { return api.Val{N: v} }

func s(v string) api.Val { return api.Val{S: v} }

// conn is a method of the connection.
func conn(id int, l ...api.Val) api.Method { return api.Method{Class: 10, Id: id, Args: l} }

func start(major, minor uint64, mechanisms string) api.Method {
	return conn(10, n(major), n(minor), s(none), s(mechanisms), s("en_US"))
}

func tune(chans, frame, beat uint64) api.Method { return conn(30, n(chans), n(frame), n(beat)) }

var (
	openOk    = conn(41, s(""))
	blocked   = conn(60, s("memory"))
	unblocked = conn(61)
	shut      = conn(50, n(320), s("bye"), n(0), n(0))
	shutOk    = conn(51)
)

// at is a broker's connection in a state, with something in every field.
func at(state int) api.Hand {
	return api.Hand{State: state, T: api.Tune{Chans: 100, Frame: 8192, Beat: 60}, User: "who", Word: "secret", Host: "/there"}
}

// in is a connection in another state.
func in(h api.Hand, state int) api.Hand {
	h.State = state
	return h
}

// states are all, and numbers that are none: below the first and behind the last.
var states = []int{0, 1, 2, 3, 4, 5, 6, math.MinInt, -256, -7, -1, 7, 8, 256, 257, 262, 1 << 32, 1<<32 + 1, math.MaxInt}

// said holds what was said against what is wanted, and that it is right and a client's to say.
func said(t *testing.T, what string, got, want []api.Method) {
	t.Helper()
	if !slices.EqualFunc(got, want, method.Same) {
		t.Errorf("%s: said %#v, not %#v", what, got, want)
	}
	for _, m := range got {
		if e := method.Right(m); e != api.OK || sig.Side(m.Class, m.Id)&1 == 0 {
			t.Errorf("%s: %#v isn't right (%d), or none of a client", what, m, e)
		}
	}
}

// takes holds one Take against what is wanted of it, and that what it was given is as it was.
func takes(t *testing.T, h api.Hand, m api.Method, hand api.Hand, e api.Errno, l ...api.Method) {
	t.Helper()
	args := slices.Clone(m.Args)
	k, out, err := dial.Take(h, m)
	if k != hand || err != e {
		t.Errorf("Take(%+v, %d %d, %v): %+v, %d, not %+v, %d", h, m.Class, m.Id, m.Args, k, err, hand, e)
	}
	said(t, "Take", out, l)
	if !slices.Equal(args, m.Args) {
		t.Errorf("Take(%+v) changed what it was given", h)
	}
}

// refused holds that a method is refused: nothing is said, and the hand is as it was.
func refused(t *testing.T, h api.Hand, m api.Method, e api.Errno) {
	t.Helper()
	takes(t, h, m, h, e)
}

// P11.1

func TestOffersWrittenOut(t *testing.T) {
	for _, x := range []struct {
		list, word string
		is         bool
	}{
		{"PLAIN AMQPLAIN EXTERNAL", "PLAIN", true},
		{"AMQPLAIN PLAIN EXTERNAL", "PLAIN", true},
		{"AMQPLAIN EXTERNAL PLAIN", "PLAIN", true},
		{"PLAIN", "PLAIN", true},
		{"PLAIN PLAIN", "PLAIN", true},
		{" PLAIN", "PLAIN", true},
		{"PLAIN ", "PLAIN", true},
		{"   X   PLAIN   Y   ", "PLAIN", true},
		{"AMQPLAIN", "PLAIN", false},
		{"PLAINER", "PLAIN", false},
		{"AMQPLAIN PLAINER XPLAINX", "PLAIN", false},
		{"PLAI N", "PLAIN", false},
		{"PL AIN", "PLAIN", false},
		{"plain Plain", "PLAIN", false},
		{"PLAI", "PLAIN", false},
		{"", "PLAIN", false},
		{" ", "PLAIN", false},
		{"", "", false},
		{" ", "", false},
		{"A  B", "", false},
		{" A", "", false},
		{"A ", "", false},
		{"A B", "A B", false},
		{"A B", " A", false},
		{"A B", "A ", false},
		{" ", " ", false},
		{"A  B", " ", false},
		{"X\tPLAIN", "PLAIN", false},
		{"PLAIN\nX", "PLAIN", false},
		{"PLAIN,X", "PLAIN", false},
		{"PLAIN\x00", "PLAIN", false},
		{"X\u00a0PLAIN", "PLAIN", false},
		{"X\tPLAIN Y", "X\tPLAIN", true},
		{"A \x00 B", "\x00", true},
		{"\xff\xfe \xff", "\xff", true},
		{"\xff\xfe \xff", "\xfe", false},
		{strings.Repeat("X ", 1<<16) + "Y", "Y", true},
		{strings.Repeat(" ", 1<<16) + "Y", "Y", true},
		{strings.Repeat("X", 1<<16) + "Y", "Y", false},
	} {
		if is := dial.Offers(x.list, x.word); is != x.is {
			t.Errorf("Offers(%.60q, %q): %v", x.list, x.word, is)
		}
	}
}

// texts are all of at most most bytes of A, B and blank.
func texts(most int) []string {
	l := []string{""}
	for i := 0; i < len(l); i++ {
		if len(l[i]) < most {
			l = append(l, l[i]+"A", l[i]+"B", l[i]+" ")
		}
	}
	return l
}

// TestOffersAll (P11.1): each short word in each short list. A word without a blank stands in a list with blanks about it.
func TestOffersAll(t *testing.T) {
	for _, list := range texts(6) {
		for _, word := range texts(3) {
			want := word != "" && !strings.Contains(word, " ") && strings.Contains(" "+list+" ", " "+word+" ")
			if is := dial.Offers(list, word); is != want {
				t.Errorf("Offers(%q, %q): %v", list, word, is)
			}
		}
	}
}

// edges are numbers at and about the bounds of a tune.
var edges = []int{math.MinInt, -1, 0, 1, 2, 60, 4095, 4096, 4097, 65534, 65535, 65536, 131071, 131072, 131073, 1 << 40, math.MaxInt}

// eachTune goes through all tunes of numbers at the edges.
func eachTune(yield func(api.Tune) bool) {
	for _, c := range edges {
		for _, f := range edges {
			for _, b := range edges {
				if !yield(api.Tune{Chans: c, Frame: f, Beat: b}) {
					return
				}
			}
		}
	}
}

func maybe(t api.Tune) bool {
	return t.Chans > 0 && t.Chans < 65536 && t.Frame > 4095 && t.Frame < 131073 && t.Beat > -1 && t.Beat < 65536
}

// agreed is what the chapter says of Agree, of a tune that may be.
func agreed(mine, theirs api.Tune) (api.Tune, api.Errno) {
	if theirs.Chans < 0 || theirs.Frame < 0 || theirs.Beat < 0 {
		return api.Tune{}, api.ErrArg
	}
	if theirs.Frame >= 1 && theirs.Frame <= 4095 {
		return api.Tune{}, api.ErrPeer
	}
	if theirs.Chans != 0 && theirs.Chans < mine.Chans {
		mine.Chans = theirs.Chans
	}
	if theirs.Frame != 0 && theirs.Frame < mine.Frame {
		mine.Frame = theirs.Frame
	}
	if theirs.Beat < mine.Beat {
		mine.Beat = theirs.Beat
	}
	return mine, api.OK
}

func TestAgree(t *testing.T) {
	some := []api.Tune{{}, {Chans: -1}, {Frame: 1}, {Chans: 10, Frame: 8192, Beat: 30}, {Chans: 10, Frame: 4095, Beat: -1}}
	for mine := range eachTune {
		if !maybe(mine) {
			for _, theirs := range some {
				if a, e := dial.Agree(mine, theirs); a != (api.Tune{}) || e != api.ErrArg {
					t.Errorf("Agree(%+v, %+v): %+v, %d", mine, theirs, a, e)
				}
			}
			continue
		}
		for theirs := range eachTune {
			want, e := agreed(mine, theirs)
			a, err := dial.Agree(mine, theirs)
			if a != want || err != e {
				t.Errorf("Agree(%+v, %+v): %+v, %d, not %+v, %d", mine, theirs, a, err, want, e)
			}
			if e == api.OK && !serve.Right(a) {
				t.Errorf("Agree(%+v, %+v): %+v may not be", mine, theirs, a)
			}
		}
	}
}

// TestAgreeWrittenOut (P11.1): the chapter's example; each number of theirs below 0, of 0, below, at and above one's own; what is told first.
func TestAgreeWrittenOut(t *testing.T) {
	type row = [3]int
	tuneOf := func(r row) api.Tune { return api.Tune{Chans: r[0], Frame: r[1], Beat: r[2]} }
	for _, x := range []struct {
		mine, theirs, want row
		e                  api.Errno
	}{
		{row{10, 8192, 30}, row{0, 0, 60}, row{10, 8192, 30}, api.OK},
		{row{10, 8192, 30}, row{0, 0, 0}, row{10, 8192, 0}, api.OK},
		{row{10, 8192, 30}, row{9, 8191, 29}, row{9, 8191, 29}, api.OK},
		{row{10, 8192, 30}, row{10, 8192, 30}, row{10, 8192, 30}, api.OK},
		{row{10, 8192, 30}, row{11, 8193, 31}, row{10, 8192, 30}, api.OK},
		{row{10, 8192, 30}, row{1, 4096, 1}, row{1, 4096, 1}, api.OK},
		{row{10, 8192, 30}, row{65536, 131073, 65536}, row{10, 8192, 30}, api.OK},
		{row{10, 8192, 0}, row{11, 4097, 60}, row{10, 4097, 0}, api.OK},
		{row{65535, 131072, 65535}, row{65535, 131072, 65535}, row{65535, 131072, 65535}, api.OK},
		{row{1, 4096, 0}, row{0, 0, 1}, row{1, 4096, 0}, api.OK},
		{row{10, 8192, 30}, row{0, 1, 60}, row{}, api.ErrPeer},
		{row{10, 8192, 30}, row{0, 4095, 60}, row{}, api.ErrPeer},
		{row{10, 8192, 30}, row{-1, 8192, 60}, row{}, api.ErrArg},
		{row{10, 8192, 30}, row{10, -1, 60}, row{}, api.ErrArg},
		{row{10, 8192, 30}, row{10, 8192, -1}, row{}, api.ErrArg},
		{row{10, 8192, 30}, row{10, 4095, -1}, row{}, api.ErrArg},
		{row{10, 8192, 30}, row{-1, 1, 0}, row{}, api.ErrArg},
		{row{0, 8192, 30}, row{10, 8192, 30}, row{}, api.ErrArg},
		{row{65536, 8192, 30}, row{10, 8192, 30}, row{}, api.ErrArg},
		{row{10, 4095, 30}, row{10, 8192, 30}, row{}, api.ErrArg},
		{row{10, 131073, 30}, row{10, 8192, 30}, row{}, api.ErrArg},
		{row{10, 8192, -1}, row{10, 8192, 30}, row{}, api.ErrArg},
		{row{10, 8192, 65536}, row{10, 8192, 30}, row{}, api.ErrArg},
		{row{10, 4095, 30}, row{10, 4095, 30}, row{}, api.ErrArg},
	} {
		if a, e := dial.Agree(tuneOf(x.mine), tuneOf(x.theirs)); a != tuneOf(x.want) || e != x.e {
			t.Errorf("Agree(%v, %v): %+v, %d", x.mine, x.theirs, a, e)
		}
	}
}

// P11.2

func begins(t *testing.T, tune api.Tune, user, word, host string, is bool) {
	t.Helper()
	want, e := api.Hand{}, api.ErrArg
	if is {
		want, e = api.Hand{State: api.HStart, T: tune, User: user, Word: word, Host: host}, api.OK
	}
	if h, err := dial.Begin(tune, user, word, host); h != want || err != e {
		t.Errorf("Begin(%+v, %.20q, %.20q, %.20q): %+v, %d", tune, user, word, host, h, err)
	}
}

func TestBegin(t *testing.T) {
	for tune := range eachTune {
		begins(t, tune, "u", "p", "v", maybe(tune))
		begins(t, tune, "", "", "", maybe(tune))
	}
	may := api.Tune{Chans: 10, Frame: 8192, Beat: 30}
	long := strings.Repeat("x", 70000)
	for _, host := range []string{"", "/", "v", "\x00", "/\x00/", "\xff\xfe", strings.Repeat("h", 254), strings.Repeat("h", 255), strings.Repeat("\x00", 255), strings.Repeat("h", 256), strings.Repeat("ä", 128), strings.Repeat("h", 511), long} {
		begins(t, may, "u", "p", host, len(host) < 256)
	}
	for _, text := range []string{"", "u", "a b", "\x01", "\xff", "ä", strings.Repeat("x", 256), long} {
		begins(t, may, text, "p", "v", true)
		begins(t, may, "u", text, "v", true)
	}
	for _, text := range []string{"\x00", "\x00u", "u\x00", "u\x00p", "\x00u\x00p", long + "\x00"} {
		begins(t, may, text, "p", "v", false)
		begins(t, may, "u", text, "v", false)
		begins(t, may, text, text, "v", false)
	}
}

// whoTold is what the empty table, PLAIN, user, word and en_US make.
func whoTold(user, word string) api.Method {
	return conn(11, s("\x00\x00\x00\x00"), s("PLAIN"), s("\x00"+user+"\x00"+word), s("en_US"))
}

func TestStart(t *testing.T) {
	h := at(api.HStart)
	for _, mechanisms := range []string{"PLAIN", "PLAIN AMQPLAIN", "AMQPLAIN PLAIN", "A PLAIN B", "  PLAIN  ", strings.Repeat("X ", 60000) + "PLAIN"} {
		takes(t, h, start(0, 9, mechanisms), in(h, api.HTune), api.OK, whoTold("who", "secret"))
		for _, x := range [][2]uint64{{0, 8}, {0, 10}, {0, 0}, {1, 9}, {9, 0}, {8, 0}, {9, 9}, {255, 255}, {0, 255}, {255, 9}} {
			refused(t, h, start(x[0], x[1], mechanisms), api.ErrPeer)
		}
	}
	for _, mechanisms := range []string{"", " ", "AMQPLAIN", "PLAINX", "plain", "EXTERNAL AMQPLAIN", "PL AIN", "PLAIN\x00", "X\tPLAIN", "PLAIN,X"} {
		refused(t, h, start(0, 9, mechanisms), api.ErrPeer)
	}
	// What is told beside it doesn't matter: a table with a field, other locales; the word counts among the mechanisms alone.
	takes(t, h, conn(10, n(0), n(9), s("\x00\x00\x00\x04\x01at\x01"), s("PLAIN"), s("de_DE")), in(h, api.HTune), api.OK, whoTold("who", "secret"))
	refused(t, h, conn(10, n(0), n(9), s(none), s("en_US"), s("PLAIN")), api.ErrPeer)
}

// TestWhoIsTold (P11.2): user and word of each kind, which no state that comes later changes.
func TestWhoIsTold(t *testing.T) {
	l := []string{"", "u", "p w", "\x01\xff", "ä", strings.Repeat("x", 300)}
	for _, user := range l {
		for _, word := range l {
			h, e := dial.Begin(api.Tune{Chans: 1, Frame: 4096}, user, word, "/")
			if e != api.OK {
				t.Fatal(e)
			}
			takes(t, h, start(0, 9, "PLAIN"), in(h, api.HTune), api.OK, whoTold(user, word))
		}
	}
}

// TestWhoIsLong (P11.2): start-ok is said of whatever Begin takes, also where it grows longer than a method's text may be.
func TestWhoIsLong(t *testing.T) {
	for _, long := range []int{131069, 131070, 131071, 200000} {
		h, _ := dial.Begin(api.Tune{Chans: 1, Frame: 4096}, "u", strings.Repeat("p", long-1), "/")
		k, l, e := dial.Take(h, start(0, 9, "PLAIN"))
		if k != in(h, api.HTune) || e != api.OK || len(l) != 1 || !method.Same(l[0], whoTold(h.User, h.Word)) {
			t.Errorf("%d bytes: %d, %d methods", long, e, len(l))
		}
		want := api.OK
		if long > 131070 {
			want = api.ErrBig
		}
		if e := method.Right(l[0]); e != want {
			t.Errorf("%d bytes: start-ok: %d", long, e)
		}
	}
}

func TestTune(t *testing.T) {
	for _, mine := range []api.Tune{{Chans: 1, Frame: 4096}, {Chans: 100, Frame: 8192, Beat: 60}, {Chans: 65535, Frame: 131072, Beat: 65535}, {Chans: 2047, Frame: 4097, Beat: 1}} {
		h := at(api.HTune)
		h.T = mine
		for _, c := range []int{0, 1, 2, 99, 100, 101, 2046, 2047, 2048, 65534, 65535} {
			for _, f := range []int{0, 1, 2, 100, 4095, 4096, 4097, 4098, 8191, 8192, 8193, 131071, 131072, 131073, 1 << 31, 1<<32 - 1} {
				for _, b := range []int{0, 1, 2, 59, 60, 61, 65534, 65535} {
					c64, f64, b64 := uint64(c), uint64(f), uint64(b)
					a, e := agreed(mine, api.Tune{Chans: c, Frame: f, Beat: b})
					if e != api.OK {
						refused(t, h, tune(c64, f64, b64), e)
						continue
					}
					k := in(h, api.HOpen)
					k.T = a
					said := conn(31, n(uint64(a.Chans)), n(uint64(a.Frame)), n(uint64(a.Beat)))
					takes(t, h, tune(c64, f64, b64), k, api.OK, said, conn(40, s("/there"), s(""), n(0)))
				}
			}
		}
	}
}

// TestTuneWrittenOut (P11.2): of 100 channels, frames of 8192, beats of 60, to hosts of each kind.
func TestTuneWrittenOut(t *testing.T) {
	for _, host := range []string{"", "/", "\x00\xff", strings.Repeat("h", 255)} {
		h := at(api.HTune)
		h.Host = host
		open := conn(40, s(host), s(""), n(0))
		k := in(h, api.HOpen)
		takes(t, h, tune(0, 0, 60), k, api.OK, conn(31, n(100), n(8192), n(60)), open)
		takes(t, h, tune(2047, 131072, 61), k, api.OK, conn(31, n(100), n(8192), n(60)), open)
		k.T = api.Tune{Chans: 99, Frame: 4096}
		takes(t, h, tune(99, 4096, 0), k, api.OK, conn(31, n(99), n(4096), n(0)), open)
		refused(t, h, tune(100, 4095, 60), api.ErrPeer)
		refused(t, h, tune(100, 1, 60), api.ErrPeer)
	}
}

// TestTuneThatMayNotBe (P11.2): of a hand that Begin doesn't make, whatever comes.
func TestTuneThatMayNotBe(t *testing.T) {
	for mine := range eachTune {
		if h := at(api.HTune); !maybe(mine) {
			h.T = mine
			refused(t, h, tune(10, 8192, 30), api.ErrArg)
			refused(t, h, tune(0, 1, 0), api.ErrArg)
		}
	}
}

func TestOpenOkAndBlocked(t *testing.T) {
	for _, state := range states {
		h := at(state)
		for _, m := range []api.Method{openOk, conn(41, s("known")), blocked, conn(60, s("")), unblocked} {
			switch {
			case state == api.HOpen && m.Id == 41, state == api.HRun && m.Id != 41:
				takes(t, h, m, in(h, api.HRun), api.OK)
			case state == api.HClosing || state == api.HClosed:
				takes(t, h, m, h, api.OK)
			default:
				refused(t, h, m, api.ErrPeer)
			}
		}
	}
}

// TestClose (P11.2): close and close-ok in every state.
func TestClose(t *testing.T) {
	for _, state := range states {
		h := at(state)
		for _, m := range []api.Method{shut, conn(50, n(0), s(""), n(60), n(40)), conn(50, n(65535), s(strings.Repeat("x", 255)), n(65535), n(65535))} {
			switch state {
			case api.HStart, api.HTune, api.HOpen, api.HRun:
				takes(t, h, m, in(h, api.HClosed), api.OK, shutOk)
			case api.HClosing:
				takes(t, h, m, h, api.OK, shutOk)
			case api.HClosed:
				takes(t, h, m, h, api.OK)
			default:
				refused(t, h, m, api.ErrPeer)
			}
		}
		switch state {
		case api.HClosing:
			takes(t, h, shutOk, in(h, api.HClosed), api.OK)
		case api.HClosed:
			takes(t, h, shutOk, h, api.OK)
		default:
			refused(t, h, shutOk, api.ErrPeer)
		}
	}
}

// some is a right method: numbers of v, texts of one letter, tables without fields.
func some(at [2]int, v uint64) api.Method {
	m := api.Method{Class: at[0], Id: at[1]}
	letters, _ := sig.Of(at[0], at[1])
	for _, c := range letters {
		switch c {
		case 'S', 'L':
			m.Args = append(m.Args, s("x"))
		case 'T':
			m.Args = append(m.Args, s(none))
		default:
			m.Args = append(m.Args, n(v))
		}
	}
	return m
}

// waited: which methods of the connection a state waits for.
var waited = map[int][]int{1: {10}, 2: {30}, 3: {41}, 4: {60, 61}}

// TestEachMethod (P11.2): every method in every state, beside those that the other tests hold.
func TestEachMethod(t *testing.T) {
	for _, place := range sig.All() {
		for _, v := range []uint64{0, 1} {
			m := some(place, v)
			if e := method.Right(m); e != api.OK {
				t.Fatalf("%+v isn't right", m)
			}
			for _, state := range states {
				id := m.Id
				if m.Class == 10 && (id == 50 || id == 51 || slices.Contains(waited[state], id)) {
					continue
				}
				if state == api.HClosing || state == api.HClosed {
					takes(t, at(state), m, at(state), api.OK)
				} else {
					refused(t, at(state), m, api.ErrPeer)
				}
			}
		}
	}
	// What a state waits for is told by values, too: start and tune come at no other time, even right ones.
	for _, state := range states {
		for _, m := range []api.Method{start(0, 9, "PLAIN"), tune(10, 8192, 30)} {
			switch {
			case slices.Contains(waited[state], m.Id): // held by the tests of each
			case state == api.HClosing || state == api.HClosed:
				takes(t, at(state), m, at(state), api.OK)
			default:
				refused(t, at(state), m, api.ErrPeer)
			}
		}
	}
}

// wrongs are methods that aren't right.
func wrongs() []api.Method {
	l := []api.Method{{}, {Class: -10, Id: 50}, {Class: 10}, {Class: 10, Id: 12}, {Class: 10, Id: 62}, {Class: 10, Id: -51}, {Class: 10 + 1<<32, Id: 51}, {Class: 10, Id: 51 + 1<<32}, {Class: math.MinInt, Id: math.MaxInt},
		conn(51, n(0)), conn(61, n(0)), conn(60), conn(60, n(1)), conn(60, s(strings.Repeat("x", 256))), conn(41), conn(41, s(""), s("")), conn(41, n(1)),
		conn(50), conn(50, n(65536), s("bye"), n(0), n(0)), conn(50, n(200), s(strings.Repeat("x", 256)), n(0), n(0)), conn(50, s("200"), s("bye"), n(0), n(0)), conn(50, n(200), s("bye"), n(0)),
		conn(10), start(256, 9, "PLAIN"), start(0, 265, "PLAIN"), start(0, 9, "PLAIN "+strings.Repeat("x", 131072)), conn(10, n(0), n(9), s(none), s("PLAIN")), conn(10, n(0), n(9), s(""), s("PLAIN"), s("en_US")), conn(10, n(0), n(9), s(none), s("PLAIN"), n(1)), conn(10, n(0), n(9), s(none), s("PLAIN"), s("en_US"), s("")),
		conn(30), conn(30, n(1), n(4096)), conn(30, n(1), n(4096), s("60")), conn(30, n(1), n(4096), n(0), n(0)), tune(65536, 8192, 0), tune(0, 1<<32, 0), tune(0, 1<<32+8192, 0), tune(0, 0, 65536), tune(math.MaxUint64, 0, 0),
	}
	for _, place := range sig.All() {
		m := some(place, 0)
		l = append(l, api.Method{Class: m.Class, Id: m.Id, Args: append(slices.Clone(m.Args), n(0))})
		if len(m.Args) > 0 {
			l = append(l, api.Method{Class: m.Class, Id: m.Id, Args: m.Args[1:]})
		}
	}
	return l
}

// TestWrongMethods (P11.2): what isn't right is refused as such in every state, whatever else is wrong with it.
func TestWrongMethods(t *testing.T) {
	for _, m := range wrongs() {
		if method.Right(m) == api.OK {
			t.Fatalf("%#v is right", m)
		}
		for _, state := range states {
			refused(t, at(state), m, api.ErrSyntax)
		}
	}
}

// TestShut (P11.2): in every state and of every error the same as chapter 10's.
func TestShut(t *testing.T) {
	places := append(sig.All(), [][2]int{{0, 0}, {60, 41}, {-60, 40}, {60, 40 + 1<<32}, {math.MinInt, math.MaxInt}, {65536, 65536}}...)
	for _, state := range states {
		for e := api.Errno(-1); e <= api.ErrPeer+1; e++ {
			for _, place := range places {
				want, l := serve.Shut(at(state), e, place[0], place[1])
				k, out := dial.Shut(at(state), e, place[0], place[1])
				if k != want {
					t.Errorf("Shut(%+v, %d, %v): %+v", at(state), e, place, k)
				}
				said(t, "Shut", out, l)
			}
		}
	}
}

// TestShutWrittenOut (P11.2): every state; errors whose code is hard, and others; a method's class and id, and such as are none's.
func TestShutWrittenOut(t *testing.T) {
	for _, x := range []struct {
		e         api.Errno
		class, id int
		want      api.Method
	}{
		{api.ErrPeer, 10, 30, conn(50, n(320), s("CONNECTION_FORCED"), n(10), n(30))},
		{api.ErrFrame, 60, 41, conn(50, n(501), s("FRAME_ERROR"), n(0), n(0))},
		{api.ErrTag, 60, 80, conn(50, n(406), s("PRECONDITION_FAILED"), n(60), n(80))},
		{api.OK, 0, 0, conn(50, n(200), s("REPLY_SUCCESS"), n(0), n(0))},
	} {
		for _, state := range []int{0, 1, 2, 3, 4} {
			k, l := dial.Shut(at(state), x.e, x.class, x.id)
			if k != at(api.HClosing) {
				t.Errorf("Shut(%d): %+v", x.e, k)
			}
			said(t, "Shut", l, []api.Method{x.want})
		}
		for _, state := range []int{5, 6} {
			if k, l := dial.Shut(at(state), x.e, x.class, x.id); k != at(state) || len(l) != 0 {
				t.Errorf("Shut(%d) in %d: %+v, %+v", x.e, state, k, l)
			}
		}
	}
}

// P11.3

// side is one side of a connection: where it is, how it takes a method.
type side struct {
	h    api.Hand
	take func(api.Hand, api.Method) (api.Hand, []api.Method, api.Errno)
}

// takeAll takes methods in their order, and tells what is said of them.
func (d *side) takeAll(t *testing.T, l []api.Method) []api.Method {
	t.Helper()
	var says []api.Method
	for _, m := range l {
		k, out, e := d.take(d.h, m)
		if e != api.OK {
			t.Fatalf("%+v refuses %+v: %d", d.h, m, e)
		}
		d.h, says = k, append(says, out...)
	}
	return says
}

// talk has both take what the other one says, b the methods of l first, till nothing is said any more.
func talk(t *testing.T, a, b *side, l []api.Method) {
	t.Helper()
	for range 10 {
		if l = a.takeAll(t, b.takeAll(t, l)); len(l) == 0 {
			return
		}
	}
	t.Fatalf("%+v and %+v come to no end", a.h, b.h)
}

// run brings a client's connection and a broker's to run.
func run(t *testing.T, theirs, mine api.Tune, user, word, host string) (broker, own *side) {
	t.Helper()
	first, e := serve.Begin(theirs)
	begun, err := dial.Begin(mine, user, word, host)
	if e != api.OK || err != api.OK {
		t.Fatal(theirs, mine, e, err)
	}
	first, l, _ := serve.Greet(first)
	broker, own = &side{first, serve.Take}, &side{begun, dial.Take}
	talk(t, broker, own, l)
	return broker, own
}

// TestBothRun (P11.3): of all tunes at the edges that may be, both come to run, and agree on all.
func TestBothRun(t *testing.T) {
	right := slices.DeleteFunc(slices.Collect(eachTune), func(t api.Tune) bool { return !maybe(t) })
	for _, theirs := range right {
		for _, mine := range right {
			broker, own := run(t, theirs, mine, "me", "pw", "/v")
			want := api.Hand{State: api.HRun, T: api.Tune{Chans: min(theirs.Chans, mine.Chans), Frame: min(theirs.Frame, mine.Frame), Beat: min(theirs.Beat, mine.Beat)}, User: "me", Word: "pw", Host: "/v"}
			if own.h != want || broker.h != want {
				t.Errorf("%+v, %+v: %+v and %+v", theirs, mine, own.h, broker.h)
			}
		}
	}
}

// TestBothKnow (P11.3): users, words and hosts of each kind come to the other side as they are.
func TestBothKnow(t *testing.T) {
	tune := api.Tune{Chans: 10, Frame: 8192, Beat: 30}
	for _, user := range []string{"", "u", "a b", "\x01\xff", strings.Repeat("u", 65535)} {
		for _, word := range []string{"", "p", "PLAIN", "ä", strings.Repeat("p", 65535)} {
			for _, host := range []string{"", "/", "a b", "\x00", strings.Repeat("h", 255)} {
				broker, own := run(t, tune, tune, user, word, host)
				if want := (api.Hand{State: api.HRun, T: tune, User: user, Word: word, Host: host}); own.h != want || broker.h != want {
					t.Errorf("%+v and %+v", own.h, broker.h)
				}
			}
		}
	}
}

// TestBothEnd (P11.2, P11.3): whoever of both closes, and if both do at one time, both come to be closed.
func TestBothEnd(t *testing.T) {
	tune := api.Tune{Chans: 10, Frame: 8192, Beat: 30}
	for who := range 3 {
		broker, own := run(t, tune, tune, "u", "p", "/")
		var theirs, mine []api.Method
		if who != 0 {
			broker.h, theirs = serve.Shut(broker.h, api.ErrPeer, 0, 0)
		}
		if who != 1 {
			own.h, mine = dial.Shut(own.h, api.OK, 0, 0)
		}
		answer := broker.takeAll(t, mine)
		talk(t, broker, own, append(theirs, answer...))
		if own.h.State != api.HClosed || broker.h.State != api.HClosed {
			t.Errorf("%d: %+v and %+v", who, own.h, broker.h)
		}
	}
}

// TestAnswersAreNew (R3, R4): whoever changes what was said changes no later answer.
func TestAnswersAreNew(t *testing.T) {
	for _, say := range []func() []api.Method{
		func() []api.Method { _, l, _ := dial.Take(at(api.HStart), start(0, 9, "PLAIN")); return l },
		func() []api.Method { _, l, _ := dial.Take(at(api.HTune), tune(0, 0, 0)); return l },
		func() []api.Method { _, l, _ := dial.Take(at(api.HRun), shut); return l },
		func() []api.Method { _, l := dial.Shut(at(api.HRun), api.ErrTag, 60, 80); return l },
	} {
		first, want := say(), say()
		for i := range first {
			for k := range first[i].Args {
				first[i].Args[k] = api.Val{N: 99, S: "changed"}
			}
			first[i] = api.Method{}
		}
		if l := say(); !slices.EqualFunc(l, want, method.Same) {
			t.Errorf("%+v, not %+v", l, want)
		}
	}
}
