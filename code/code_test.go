package code_test

import (
	"fmt"
	"math"
	"slices"
	"strings"
	"testing"

	"interchange/api"
	"interchange/code"
	"interchange/method"
	"interchange/sig"
)

func n(v uint64) api.Val { return api.Val{N: v} }

func s(v string) api.Val { return api.Val{S: v} }

func of(class, id int, l ...api.Val) api.Method {
	return api.Method{Class: class, Id: id, Args: l}
}

// The methods that close, of a connection and of a channel: class and id.
var closers = [][2]int{{10, 50}, {20, 40}}

// closing is the one of these that is told, with four values.
func closing(at [2]int, c uint64, text string, class, id uint64) api.Method {
	return of(at[0], at[1], n(c), s(text), n(class), n(id))
}

// said is what the chapter says of an error.
type said struct {
	code int
	text string
}

// chapter are the errors that the chapter names, by api's numbers; all others are internal.
var chapter = map[api.Errno]said{
	0:  {200, "REPLY_SUCCESS"},
	4:  {311, "CONTENT_TOO_LARGE"},
	6:  {501, "FRAME_ERROR"},
	7:  {502, "SYNTAX_ERROR"},
	8:  {503, "COMMAND_INVALID"},
	9:  {504, "CHANNEL_ERROR"},
	10: {505, "UNEXPECTED_FRAME"},
	11: {404, "NOT_FOUND"},
	12: {506, "RESOURCE_ERROR"},
	13: {406, "PRECONDITION_FAILED"},
	14: {530, "NOT_ALLOWED"},
	16: {320, "CONNECTION_FORCED"},
}

var internal = said{541, "INTERNAL_ERROR"}

func wanted(e api.Errno) said {
	if w, is := chapter[e]; is {
		return w
	}
	return internal
}

// errnos are all errors, and numbers that are none: below 0, behind the last one, some that are errors if they are cut off.
func errnos() []api.Errno {
	var l []api.Errno
	for e := api.Errno(-20); e <= 600; e++ {
		l = append(l, e)
	}
	for e := api.Errno(0); e <= 16; e++ {
		l = append(l, e+1<<16, e+1<<32, e-1<<32, e+math.MinInt)
	}
	return append(l, math.MaxInt, math.MinInt)
}

// numbers are some of which most are neither class nor id nor code.
var numbers = []int{math.MinInt, math.MinInt + 1, -1 << 32, -65526, -60, -50, -10, -1, 0, 1, 9, 10, 20, 40, 50, 51, 60, 61, 85, 90, 255, 256, 316, 65535, 65536, 65596, 1 << 31, 1<<32 + 10, 1<<32 + 60, math.MaxInt - 1, math.MaxInt}

// places are class and id of all methods, and of many that are none.
func places() [][2]int {
	l := sig.All()
	for _, class := range numbers {
		for _, id := range numbers {
			l = append(l, [2]int{class, id})
		}
	}
	for class := range 100 {
		for id := range 130 {
			l = append(l, [2]int{class, id})
		}
	}
	return l
}

// soft: the codes that close the channel alone.
func soft(n int) bool { return n == 311 || n == 404 || n == 406 }

// P9.1

func TestOf(t *testing.T) {
	for _, e := range errnos() {
		w := wanted(e)
		if n, text := code.Of(e); n != w.code || text != w.text {
			t.Errorf("Of(%d): %d %s, not %d %s", e, n, text, w.code, w.text)
		}
	}
}

// TestOfByName (P9.1): the errors by their names, as the chapter has them.
func TestOfByName(t *testing.T) {
	for _, x := range []struct {
		e    api.Errno
		want string
	}{
		{api.ErrFrame, "501 FRAME_ERROR"},
		{api.ErrSyntax, "502 SYNTAX_ERROR"},
		{api.ErrWhen, "503 COMMAND_INVALID"},
		{api.ErrChan, "504 CHANNEL_ERROR"},
		{api.ErrUnexp, "505 UNEXPECTED_FRAME"},
		{api.ErrFull, "506 RESOURCE_ERROR"},
		{api.ErrThere, "530 NOT_ALLOWED"},
		{api.ErrPeer, "320 CONNECTION_FORCED"},
		{api.ErrBig, "311 CONTENT_TOO_LARGE"},
		{api.ErrNone, "404 NOT_FOUND"},
		{api.ErrTag, "406 PRECONDITION_FAILED"},
		{api.OK, "200 REPLY_SUCCESS"},
		{api.ErrArg, "541 INTERNAL_ERROR"},
		{api.ErrMore, "541 INTERNAL_ERROR"},
		{api.ErrForm, "541 INTERNAL_ERROR"},
		{api.ErrDeep, "541 INTERNAL_ERROR"},
		{api.ErrEnd, "541 INTERNAL_ERROR"},
		{api.ErrPeer + 1, "541 INTERNAL_ERROR"},
		{-1, "541 INTERNAL_ERROR"},
	} {
		n, text := code.Of(x.e)
		if got := fmt.Sprintf("%d %s", n, text); got != x.want {
			t.Errorf("Of(%d): %s, not %s", x.e, got, x.want)
		}
	}
}

func TestHard(t *testing.T) {
	for n := -1000; n <= 70000; n++ {
		if h := code.Hard(n); h == soft(n) {
			t.Errorf("Hard(%d): %v", n, h)
		}
	}
	others := slices.Clone(numbers)
	for _, n := range []int{311, 404, 406} {
		others = append(others, -n, n+1<<16, n+1<<32, n-1<<32, n+math.MinInt, n<<32)
	}
	for _, n := range others {
		if !code.Hard(n) {
			t.Errorf("Hard(%d) isn't", n)
		}
	}
	for e, w := range chapter {
		if h := code.Hard(w.code); h != (e != api.ErrBig && e != api.ErrNone && e != api.ErrTag) {
			t.Errorf("Hard(%d): %v", w.code, h)
		}
	}
}

// P9.2

// closed is what the chapter says of Close.
func closed(e api.Errno, class, id int) api.Method {
	w, at := wanted(e), closers[0]
	if soft(w.code) {
		at = closers[1]
	}
	if _, is := sig.Of(class, id); !is {
		class, id = 0, 0
	}
	return closing(at, uint64(w.code), w.text, uint64(class), uint64(id))
}

func TestClose(t *testing.T) {
	errors := []api.Errno{-1, 17, math.MaxInt, math.MinInt}
	for e := range api.Errno(17) {
		errors = append(errors, e)
	}
	for _, at := range places() {
		for _, e := range errors {
			if m, w := code.Close(e, at[0], at[1]), closed(e, at[0], at[1]); !method.Same(m, w) {
				t.Fatalf("Close(%d, %d, %d): %+v, not %+v", e, at[0], at[1], m, w)
			}
		}
	}
	for _, e := range errnos() {
		if m, w := code.Close(e, 60, 40), closed(e, 60, 40); !method.Same(m, w) {
			t.Errorf("Close(%d, 60, 40): %+v, not %+v", e, m, w)
		}
	}
}

// TestCloseWrittenOut (P9.2): some, with what they are in words of their own.
func TestCloseWrittenOut(t *testing.T) {
	for _, x := range []struct {
		e         api.Errno
		class, id int
		want      api.Method
	}{
		{api.ErrTag, 60, 80, closing([2]int{20, 40}, 406, "PRECONDITION_FAILED", 60, 80)},
		{api.ErrNone, 60, 20, closing([2]int{20, 40}, 404, "NOT_FOUND", 60, 20)},
		{api.ErrBig, 60, 40, closing([2]int{20, 40}, 311, "CONTENT_TOO_LARGE", 60, 40)},
		{api.ErrTag, 60, 81, closing([2]int{20, 40}, 406, "PRECONDITION_FAILED", 0, 0)},
		{api.ErrTag, 10, 40, closing([2]int{20, 40}, 406, "PRECONDITION_FAILED", 10, 40)},
		{api.OK, 0, 0, closing([2]int{10, 50}, 200, "REPLY_SUCCESS", 0, 0)},
		{api.ErrPeer, 90, 31, closing([2]int{10, 50}, 320, "CONNECTION_FORCED", 90, 31)},
		{api.ErrFull, 20, 10, closing([2]int{10, 50}, 506, "RESOURCE_ERROR", 20, 10)},
		{api.ErrThere, 10, 40, closing([2]int{10, 50}, 530, "NOT_ALLOWED", 10, 40)},
		{api.ErrFrame, 60, 0, closing([2]int{10, 50}, 501, "FRAME_ERROR", 0, 0)},
		{api.ErrSyntax, 0, 60, closing([2]int{10, 50}, 502, "SYNTAX_ERROR", 0, 0)},
		{api.ErrWhen, -60, 40, closing([2]int{10, 50}, 503, "COMMAND_INVALID", 0, 0)},
		{api.ErrChan, 60 + 1<<16, 40, closing([2]int{10, 50}, 504, "CHANNEL_ERROR", 0, 0)},
		{api.ErrUnexp, 60, 40 + 1<<32, closing([2]int{10, 50}, 505, "UNEXPECTED_FRAME", 0, 0)},
		{api.ErrEnd, math.MaxInt, math.MinInt, closing([2]int{10, 50}, 541, "INTERNAL_ERROR", 0, 0)},
		{-1, 85, 10, closing([2]int{10, 50}, 541, "INTERNAL_ERROR", 85, 10)},
	} {
		if m := code.Close(x.e, x.class, x.id); !method.Same(m, x.want) {
			t.Errorf("Close(%d, %d, %d): %+v, not %+v", x.e, x.class, x.id, m, x.want)
		}
	}
}

// forced is what the chapter says of Forced, of a right method that closes.
func forced(n uint64) api.Errno {
	switch n {
	case 320:
		return api.ErrPeer
	case 406:
		return api.ErrTag
	case 404:
		return api.ErrNone
	case 311:
		return api.ErrBig
	case 506:
		return api.ErrFull
	}
	return api.ErrArg
}

// answers holds what is told of a right method that closes.
func answers(t *testing.T, m api.Method) {
	t.Helper()
	if e := method.Right(m); e != api.OK {
		t.Fatalf("%#v isn't right: %d", m, e)
	}
	if d, is := code.Done(m); !is || !method.Same(d, of(m.Class, m.Id+1)) || method.Right(d) != api.OK {
		t.Fatalf("Done(%#v): %#v, %v", m, d, is)
	}
	if c, text, is := code.Told(m); c < 0 || uint64(c) != m.Args[0].N || text != m.Args[1].S || !is {
		t.Fatalf("Told(%#v): %d, %q, %v", m, c, text, is)
	}
	if e, w := code.Forced(m), forced(m.Args[0].N); e != w {
		t.Fatalf("Forced(%#v): %d, not %d", m, e, w)
	}
}

// silent holds that nothing is told of a method that isn't a right one that closes.
func silent(t *testing.T, m api.Method) {
	t.Helper()
	if d, is := code.Done(m); is || !method.Same(d, api.Method{}) {
		t.Fatalf("Done(%#v): %#v, %v", m, d, is)
	}
	if c, text, is := code.Told(m); c != 0 || text != "" || is {
		t.Fatalf("Told(%#v): %d, %q, %v", m, c, text, is)
	}
	if e := code.Forced(m); e != api.OK {
		t.Fatalf("Forced(%#v): %d", m, e)
	}
}

// TestEachCode (P9.2): both methods, with every code that there may be.
func TestEachCode(t *testing.T) {
	for _, at := range closers {
		for c := range uint64(65536) {
			answers(t, closing(at, c, "x", 60, 40))
		}
	}
}

// TestEachText (P9.2): texts up to the longest, and class and id that are no method's, which are right too.
func TestEachText(t *testing.T) {
	for _, at := range closers {
		for _, text := range []string{"", "x", "NOT_FOUND", "no queue 'q' in vhost '/'", "\x00", "\xff\xfe", "ä", strings.Repeat("t", 254), strings.Repeat("\xce", 255)} {
			for _, v := range []uint64{0, 1, 60, 90, 255, 256, 65535} {
				for _, c := range []uint64{0, 320, 404, 65535} {
					answers(t, closing(at, c, text, v, v))
					answers(t, closing(at, c, text, 60, v))
					answers(t, closing(at, c, text, v, 0))
				}
			}
		}
	}
}

// TestClosersWrittenOut (P9.2): both, in words of their own.
func TestClosersWrittenOut(t *testing.T) {
	for _, x := range []struct {
		m    api.Method
		done int
		e    api.Errno
	}{
		{closing([2]int{10, 50}, 320, "bye", 0, 0), 51, api.ErrPeer},
		{closing([2]int{20, 40}, 320, "bye", 0, 0), 41, api.ErrPeer},
		{closing([2]int{20, 40}, 406, "unknown delivery tag", 60, 80), 41, api.ErrTag},
		{closing([2]int{20, 40}, 404, "no queue", 50, 10), 41, api.ErrNone},
		{closing([2]int{20, 40}, 311, "too large", 60, 40), 41, api.ErrBig},
		{closing([2]int{10, 50}, 506, "memory", 0, 0), 51, api.ErrFull},
		{closing([2]int{10, 50}, 406, "x", 0, 0), 51, api.ErrTag},
		{closing([2]int{10, 50}, 200, "Goodbye", 0, 0), 51, api.ErrArg},
		{closing([2]int{10, 50}, 0, "", 0, 0), 51, api.ErrArg},
		{closing([2]int{10, 50}, 501, "x", 0, 0), 51, api.ErrArg},
		{closing([2]int{10, 50}, 530, "x", 0, 0), 51, api.ErrArg},
		{closing([2]int{10, 50}, 541, "x", 0, 0), 51, api.ErrArg},
		{closing([2]int{20, 40}, 403, "x", 40, 10), 41, api.ErrArg},
		{closing([2]int{20, 40}, 65535, "x", 40, 10), 41, api.ErrArg},
	} {
		if d, is := code.Done(x.m); !is || d.Class != x.m.Class || d.Id != x.done || len(d.Args) != 0 {
			t.Errorf("Done(%+v): %+v, %v", x.m, d, is)
		}
		if e := code.Forced(x.m); e != x.e {
			t.Errorf("Forced(%+v): %d, not %d", x.m, e, x.e)
		}
		answers(t, x.m)
	}
}

// TestNotRight (P9.2): both, with values that may not be.
func TestNotRight(t *testing.T) {
	long := strings.Repeat("t", 256)
	for _, at := range closers {
		for _, c := range []uint64{200, 311, 320, 404, 406, 506, 541} {
			for _, l := range [][]api.Val{
				nil,
				{},
				{n(c)},
				{n(c), s("x")},
				{n(c), s("x"), n(60)},
				{s("x"), n(60), n(40)},
				{n(c), s("x"), n(60), n(40), n(0)},
				{n(c), s("x"), n(60), n(40), {}},
				{n(c), s("x"), n(60), n(40), s("x")},
				{s("x"), n(c), n(60), n(40)},
				{n(c), n(60), s("x"), n(40)},
				{n(c), n(60), n(40), s("x")},
				{s("320"), s("x"), n(60), n(40)},
				{{N: c, S: "x"}, s("x"), n(60), n(40)},
				{n(c), {N: 1, S: "x"}, n(60), n(40)},
				{n(c), n(1), n(60), n(40)},
				{n(c), s("x"), {N: 60, S: "x"}, n(40)},
				{n(c), s("x"), s("x"), n(40)},
				{n(c), s("x"), n(60), {N: 40, S: "x"}},
				{n(c), s("x"), n(60), s("x")},
				{n(c + 1<<16), s("x"), n(60), n(40)},
				{n(c + 1<<32), s("x"), n(60), n(40)},
				{n(c + 1<<63), s("x"), n(60), n(40)},
				{n(65536), s("x"), n(60), n(40)},
				{n(math.MaxUint64), s("x"), n(60), n(40)},
				{n(c), s(long), n(60), n(40)},
				{n(c), s("x"), n(65536), n(40)},
				{n(c), s("x"), n(math.MaxUint64), n(40)},
				{n(c), s("x"), n(60), n(65536)},
				{n(c), s("x"), n(60), n(1 << 40)},
			} {
				silent(t, of(at[0], at[1], l...))
			}
		}
	}
}

// anyOf is a right method of that class and id; its numbers are 1, but for those of two bytes: these are 320, a code that Forced knows.
func anyOf(t *testing.T, class, id int) api.Method {
	t.Helper()
	letters, _ := sig.Of(class, id)
	m := of(class, id)
	for i := range len(letters) {
		v := n(1)
		switch letters[i] {
		case 's':
			v = n(320)
		case 'S', 'L':
			v = s("t")
		case 'T':
			v = s("\x00\x00\x00\x00")
		}
		m.Args = append(m.Args, v)
	}
	if e := method.Right(m); e != api.OK {
		t.Fatalf("%+v isn't right: %d", m, e)
	}
	return m
}

// TestOthers (P9.2): all other methods, right ones and ones with the values of those that close, and what is none.
func TestOthers(t *testing.T) {
	values := []api.Val{n(320), s("CONNECTION_FORCED"), n(60), n(40)}
	others := 0
	for _, at := range sig.All() {
		if slices.Contains(closers, at) {
			answers(t, anyOf(t, at[0], at[1]))
			continue
		}
		others++
		silent(t, anyOf(t, at[0], at[1]))
	}
	if others != 56 {
		t.Errorf("%d other methods, not 56", others)
	}
	for _, at := range places() {
		if slices.Contains(closers, at) {
			continue
		}
		silent(t, of(at[0], at[1]))
		silent(t, of(at[0], at[1], values...))
	}
	silent(t, api.Method{})
}

// P9.3

// TestTellsWhatItWasMadeOf (P9.3): what Close makes is right, tells its code and text, class and id, and comes whole out of its bytes.
func TestTellsWhatItWasMadeOf(t *testing.T) {
	for _, at := range places() {
		for _, e := range []api.Errno{-1, 0, 1, 2, 3, 4, 5, 6, 7, 8, 9, 10, 11, 12, 13, 14, 15, 16, 17} {
			m := code.Close(e, at[0], at[1])
			answers(t, m)
			n, text := code.Of(e)
			if c, told, is := code.Told(m); !is || c != n || told != text {
				t.Fatalf("Told(%+v): %d, %q, %v, not %d, %q", m, c, told, is, n, text)
			}
			if hard := code.Hard(n); hard != (m.Class == api.CConn) || hard == (m.Class == api.CChan) {
				t.Fatalf("Hard(%d): %v, but it is %+v", n, hard, m)
			}
			if _, is := sig.Of(at[0], at[1]); is != (m.Args[2].N > 0) || is != (m.Args[3].N > 0) || is && (m.Args[2].N != uint64(at[0]) || m.Args[3].N != uint64(at[1])) {
				t.Fatalf("Close(%d, %d, %d): %+v", e, at[0], at[1], m)
			}
		}
	}
	for e, back := range map[api.Errno]api.Errno{
		api.ErrPeer: api.ErrPeer, api.ErrTag: api.ErrTag, api.ErrNone: api.ErrNone, api.ErrBig: api.ErrBig, api.ErrFull: api.ErrFull,
		api.OK: api.ErrArg, api.ErrArg: api.ErrArg, api.ErrFrame: api.ErrArg, api.ErrThere: api.ErrArg, api.ErrEnd: api.ErrArg,
	} {
		m := code.Close(e, 60, 40)
		b, _ := method.Bytes(m)
		taken, err := method.Take(b)
		if err != api.OK || !method.Same(taken, m) || code.Forced(taken) != back {
			t.Errorf("%d: %+v, out of its bytes %+v, is %d", e, m, taken, code.Forced(taken))
		}
	}
}

// TestBytes (P9.3): the chapter's example, and the answer to it, as bytes.
func TestBytes(t *testing.T) {
	m := code.Close(api.ErrTag, 60, 80)
	if b, e := method.Bytes(m); e != api.OK || b != "\x00\x14\x00\x28\x01\x96\x13PRECONDITION_FAILED\x00\x3c\x00\x50" {
		t.Errorf("%x, %d", b, e)
	}
	d, _ := code.Done(m)
	if b, e := method.Bytes(d); e != api.OK || b != "\x00\x14\x00\x29" {
		t.Errorf("%x, %d", b, e)
	}
	d, _ = code.Done(code.Close(api.ErrPeer, 0, 0))
	if b, e := method.Bytes(d); e != api.OK || b != "\x00\x0a\x00\x33" {
		t.Errorf("%x, %d", b, e)
	}
}

// The rules

// TestNewMemory (R3, R4): what is handed in stays as it was, and who writes into an answer changes neither it nor a later answer.
func TestNewMemory(t *testing.T) {
	for _, e := range []api.Errno{api.ErrTag, api.ErrPeer} {
		one := code.Close(e, 60, 80)
		before := fmt.Sprintf("%+v", one)
		for i := range one.Args {
			one.Args[i] = api.Val{N: 9, S: "y"}
		}
		_ = append(one.Args, n(9))
		if after := fmt.Sprintf("%+v", code.Close(e, 60, 80)); after != before {
			t.Errorf("%s became %s", before, after)
		}
	}
	for _, at := range closers {
		l := []api.Val{n(404), s("x"), n(60), n(40), n(9)}
		m := of(at[0], at[1], l[:4]...)
		d, _ := code.Done(m)
		code.Told(m)
		code.Forced(m)
		_ = append(d.Args, n(7), n(7), n(7), n(7), n(7))
		if !slices.Equal(l, []api.Val{n(404), s("x"), n(60), n(40), n(9)}) {
			t.Errorf("%+v became %+v", at, l)
		}
	}
}
