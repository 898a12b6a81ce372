package method_test

import (
	"encoding/binary"
	"math"
	"slices"
	"strings"
	"testing"

	"interchange/api"
	"interchange/method"
	"interchange/sig"
)

const noTable = "\x00\x00\x00\x00" // a table without fields

// oneField is a table of a, t 01.
const oneField = "\x00\x00\x00\x04\x01at\x01"

func n(v uint64) api.Val { return api.Val{N: v} }

func s(v string) api.Val { return api.Val{S: v} }

func of(class, id int, l ...api.Val) api.Method {
	return api.Method{Class: class, Id: id, Args: l}
}

func text(k int) string { return strings.Repeat("x", k) }

// nested is a table of the depth that is told.
func nested(depth int) string {
	t := noTable
	for range depth - 1 {
		t = prefixed(4, "\x01aF"+t)
	}
	return t
}

// prefixed is a text with its length in so many bytes ahead.
func prefixed(width int, t string) string { return whole(width, uint64(len(t))) + t }

// whole is a number in so many bytes.
func whole(width int, v uint64) string {
	return string(binary.BigEndian.AppendUint64(nil, v))[8-width:]
}

var widths = map[byte]int{'o': 1, 's': 2, 'l': 4, 'q': 8}

// top is the greatest number of a letter.
func top(letter byte) uint64 {
	if letter == 'b' {
		return 1
	}
	return math.MaxUint64 >> (64 - 8*widths[letter])
}

// wanted are the bytes that the chapter says of a right method.
func wanted(m api.Method) string {
	letters, _ := sig.Of(m.Class, m.Id)
	b := whole(2, uint64(m.Class)) + whole(2, uint64(m.Id))
	for i, v := range m.Args {
		switch letter := letters[i]; letter {
		case 'b':
			place := 0
			for place < i && letters[i-1-place] == 'b' {
				place++
			}
			if place%8 == 0 {
				b += "\x00"
			}
			last := len(b) - 1
			b = b[:last] + string([]byte{b[last] | byte(v.N)<<(place%8)})
		case 'S':
			b += prefixed(1, v.S)
		case 'L':
			b += prefixed(4, v.S)
		case 'T':
			b += v.S
		default:
			b += whole(widths[letter], v.N)
		}
	}
	return b
}

// some are values that are right for a letter, the edges among them.
func some(letter byte) []api.Val {
	switch letter {
	case 'S':
		return []api.Val{s(""), s("q"), s("\x00\xce\xff"), s(text(254)), s(text(255))}
	case 'L':
		return []api.Val{s(""), s("en_US"), s(text(256)), s(text(65536)), s(text(131071)), s(text(131072))}
	case 'T':
		return []api.Val{s(noTable), s(oneField), s(nested(2)), s(nested(32)), s(prefixed(4, "\x01aS"+prefixed(4, text(200000))))}
	case 'b':
		return []api.Val{n(0), n(1)}
	}
	return []api.Val{n(0), n(1), n(255), n(0x0102030405060708 & top(letter)), n(top(letter) - 1), n(top(letter))}
}

// fault is a value that isn't right for a letter, and its error.
type fault struct {
	v api.Val
	e api.Errno
}

func faults(letter byte) []fault {
	switch letter {
	case 'S':
		return []fault{
			{s(text(256)), api.ErrBig}, {s(text(70000)), api.ErrBig}, {api.Val{N: 1, S: text(256)}, api.ErrBig},
			{n(1), api.ErrArg}, {n(math.MaxUint64), api.ErrArg}, {api.Val{N: 1, S: "q"}, api.ErrArg}, {api.Val{N: 1, S: text(255)}, api.ErrArg},
		}
	case 'L':
		return []fault{
			{s(text(131073)), api.ErrBig}, {s(text(1 << 20)), api.ErrBig}, {api.Val{N: 1, S: text(131073)}, api.ErrBig},
			{n(1), api.ErrArg}, {n(math.MaxUint64), api.ErrArg}, {api.Val{N: 1, S: "q"}, api.ErrArg}, {api.Val{N: 1, S: text(131072)}, api.ErrArg},
		}
	case 'T':
		l := []fault{{n(1), api.ErrArg}, {n(math.MaxUint64), api.ErrArg}, {api.Val{N: 1, S: noTable}, api.ErrArg}, {api.Val{N: 1, S: "z"}, api.ErrArg}}
		for _, t := range noTables() {
			l = append(l, fault{s(t), api.ErrForm})
		}
		return l
	}
	l := []fault{{n(math.MaxUint64), api.ErrBig}, {n(top(letter) + 1), api.ErrBig}, {api.Val{N: top(letter) + 1, S: "z"}, api.ErrBig}}
	if letter == 'q' { // no number is too great there
		l = nil
	}
	return append(l, fault{s("z"), api.ErrArg}, fault{s("\x00"), api.ErrArg}, fault{s(text(131073)), api.ErrArg}, fault{api.Val{N: 1, S: "z"}, api.ErrArg}, fault{api.Val{N: top(letter), S: "z"}, api.ErrArg})
}

// noTables are bytes that are no table, or more than one.
func noTables() []string {
	return []string{
		"", "z", "\x00\x00\x00", noTable + "\x00", noTable + noTable, oneField + "z", oneField[:len(oneField)-1],
		"\x00\x00\x00\x01a", "\x00\x00\x00\x04\x01az\x01", "\x00\x00\x00\x03\x01at\x01", "\xff\xff\xff\xff", nested(33), nested(100),
	}
}

// each calls f for every method of chapter 5, with values that are right, one of them the i-th of a turn.
func each(f func(m api.Method, letters string)) {
	for _, at := range sig.All() {
		letters, _ := sig.Of(at[0], at[1])
		for turn := range 7 {
			m := of(at[0], at[1])
			for i := range len(letters) {
				l := some(letters[i])
				m.Args = append(m.Args, l[(turn+i*i)%len(l)])
			}
			f(m, letters)
		}
	}
}

// plain is a right method of that class and id with the least values.
func plain(class, id int) api.Method {
	letters, _ := sig.Of(class, id)
	m := of(class, id)
	for i := range len(letters) {
		m.Args = append(m.Args, some(letters[i])[0])
	}
	return m
}

func equal(a, b api.Method) bool {
	return a.Class == b.Class && a.Id == b.Id && slices.Equal(a.Args, b.Args)
}

func isZero(m api.Method) bool { return m.Class == 0 && m.Id == 0 && len(m.Args) == 0 }

// refused holds that Right, Bytes and Make tell the error, and nothing beside it.
func refused(t *testing.T, m api.Method, e api.Errno) {
	t.Helper()
	if got := method.Right(m); got != e {
		t.Errorf("Right of %d, %d: %d, not %d", m.Class, m.Id, got, e)
	}
	if b, got := method.Bytes(m); b != "" || got != e {
		t.Errorf("Bytes of %d, %d: %.40q %d, not %d", m.Class, m.Id, b, got, e)
	}
	if k, got := method.Make(m.Class, m.Id, m.Args); !isZero(k) || got != e {
		t.Errorf("Make of %d, %d: %d, %d, %d values, %d, not %d", m.Class, m.Id, k.Class, k.Id, len(k.Args), got, e)
	}
}

// untaken holds that Take refuses, and tells nothing beside it.
func untaken(t *testing.T, b string) {
	t.Helper()
	if m, e := method.Take(b); !isZero(m) || e != api.ErrSyntax {
		t.Errorf("Take(%.40q): %d, %d, %d values, %d", b, m.Class, m.Id, len(m.Args), e)
	}
}

// P6.1

// TestBytes (P6.1): methods with values of every kind, their bytes written out.
func TestBytes(t *testing.T) {
	for _, x := range []struct {
		m api.Method
		b string
	}{
		{of(10, 51), "\x00\x0a\x00\x33"},
		{of(10, 10, n(0), n(9), s(oneField), s("PLAIN"), s("en_US")), "\x00\x0a\x00\x0a\x00\x09" + oneField + "\x00\x00\x00\x05PLAIN\x00\x00\x00\x05en_US"},
		{of(10, 11, s(noTable), s("PLAIN"), s("\x00u\x00p"), s("en_US")), "\x00\x0a\x00\x0b" + noTable + "\x05PLAIN\x00\x00\x00\x04\x00u\x00p\x05en_US"},
		{of(10, 30, n(2047), n(131072), n(60)), "\x00\x0a\x00\x1e\x07\xff\x00\x02\x00\x00\x00\x3c"},
		{of(10, 40, s("/"), s(""), n(1)), "\x00\x0a\x00\x28\x01/\x00\x01"},
		{of(10, 50, n(320), s("gone"), n(10), n(40)), "\x00\x0a\x00\x32\x01\x40\x04gone\x00\x0a\x00\x28"},
		{of(20, 20, n(0)), "\x00\x14\x00\x14\x00"},
		{of(20, 20, n(1)), "\x00\x14\x00\x14\x01"},
		{of(20, 11, s("")), "\x00\x14\x00\x0b\x00\x00\x00\x00"},
		{of(40, 10, n(0), s("x"), s("direct"), n(1), n(0), n(1), n(0), n(1), s(noTable)), "\x00\x28\x00\x0a\x00\x00\x01x\x06direct\x15" + noTable},
		{of(40, 10, n(0), s("x"), s("direct"), n(1), n(1), n(1), n(1), n(1), s(noTable)), "\x00\x28\x00\x0a\x00\x00\x01x\x06direct\x1f" + noTable},
		{of(40, 10, n(0), s("x"), s("direct"), n(0), n(0), n(0), n(0), n(0), s(noTable)), "\x00\x28\x00\x0a\x00\x00\x01x\x06direct\x00" + noTable},
		{of(50, 11, s("q"), n(1<<32-1), n(258)), "\x00\x32\x00\x0b\x01q\xff\xff\xff\xff\x00\x00\x01\x02"},
		{of(60, 20, n(0), s("q"), s("c"), n(0), n(0), n(0), n(1), s(oneField)), "\x00\x3c\x00\x14\x00\x00\x01q\x01c\x08" + oneField},
		{of(60, 40, n(0), s("x"), s("k"), n(0), n(1)), "\x00\x3c\x00\x28\x00\x00\x01x\x01k\x02"},
		{of(60, 60, s("c"), n(1<<64-1), n(1), s("x"), s("k")), "\x00\x3c\x00\x3c\x01c\xff\xff\xff\xff\xff\xff\xff\xff\x01\x01x\x01k"},
		{of(60, 71, n(258), n(0), s("x"), s("k"), n(3)), "\x00\x3c\x00\x47\x00\x00\x00\x00\x00\x00\x01\x02\x00\x01x\x01k\x00\x00\x00\x03"},
		{of(60, 120, n(7), n(1), n(1)), "\x00\x3c\x00\x78\x00\x00\x00\x00\x00\x00\x00\x07\x03"},
		{of(85, 10, n(1)), "\x00\x55\x00\x0a\x01"},
		{of(90, 31), "\x00\x5a\x00\x1f"},
	} {
		if e := method.Right(x.m); e != api.OK {
			t.Errorf("Right of %d, %d: %d", x.m.Class, x.m.Id, e)
		}
		if b, e := method.Bytes(x.m); b != x.b || e != api.OK {
			t.Errorf("Bytes of %d, %d: %q %d, not %q", x.m.Class, x.m.Id, b, e, x.b)
		}
		if m, e := method.Take(x.b); !equal(m, x.m) || e != api.OK {
			t.Errorf("Take(%q): %v %d, not %v", x.b, m, e, x.m)
		}
	}
}

// TestEveryMethod (P6.1): all methods of chapter 5, with the edges of each kind.
func TestEveryMethod(t *testing.T) {
	each(func(m api.Method, _ string) {
		if e := method.Right(m); e != api.OK {
			t.Errorf("Right of %d, %d: %d", m.Class, m.Id, e)
		}
		if b, e := method.Bytes(m); b != wanted(m) || e != api.OK {
			t.Errorf("Bytes of %d, %d: %.80q %d, not %.80q", m.Class, m.Id, b, e, wanted(m))
		}
	})
}

// TestBitsSideBySide (P6.1): every choice of the bits of each method. No method has more than eight side by side; so each row of them is one byte.
func TestBitsSideBySide(t *testing.T) {
	for _, at := range sig.All() {
		letters, _ := sig.Of(at[0], at[1])
		bits := strings.Count(letters, "b")
		first := strings.IndexByte(letters, 'b')
		if bits == 0 {
			continue
		}
		if bits > 8 || !strings.Contains(letters, strings.Repeat("b", bits)) {
			t.Fatalf("%d, %d: %q has bits that are not in one byte", at[0], at[1], letters)
		}
		least := plain(at[0], at[1])
		b := wanted(least)
		place := len(wanted(of(at[0], at[1], least.Args[:first]...)))
		for choice := range 1 << bits {
			m := plain(at[0], at[1])
			for k := range bits {
				m.Args[first+k].N = uint64(choice >> k & 1)
			}
			want := b[:place] + string([]byte{byte(choice)}) + b[place+1:]
			if got, e := method.Bytes(m); got != want || e != api.OK {
				t.Errorf("%d, %d, bits %b: %q %d, not %q", at[0], at[1], choice, got, e, want)
			}
			if k, e := method.Take(want); !equal(k, m) || e != api.OK {
				t.Errorf("Take(%q): %v %d, not %v", want, k, e, m)
			}
		}
	}
}

// TestNoSuchMethod (P6.1): what chapter 5 doesn't have, whatever its values are.
func TestNoSuchMethod(t *testing.T) {
	for _, at := range [][2]int{
		{0, 0}, {10, 0}, {0, 10}, {10, 1}, {10, 12}, {10, 62}, {30, 10}, {60, 41}, {60, 73}, {60, 121}, {85, 20}, {90, 40},
		{-10, 51}, {10, -51}, {-10, -51}, {10 + 1<<16, 51}, {10, 51 + 1<<16}, {10 + 1<<32, 51}, {10, 51 + 1<<32},
		{math.MaxInt, 51}, {10, math.MaxInt}, {math.MinInt, math.MinInt},
	} {
		for _, l := range [][]api.Val{nil, {}, {n(0)}, {s(text(70000))}, {n(1 << 60), s("z")}} {
			refused(t, of(at[0], at[1], l...), api.ErrSyntax)
		}
	}
}

// TestHowManyValues (P6.1): one missing, one too many, none; ahead of what the values are.
func TestHowManyValues(t *testing.T) {
	for _, at := range sig.All() {
		m := plain(at[0], at[1])
		refused(t, of(at[0], at[1], append(slices.Clone(m.Args), api.Val{})...), api.ErrSyntax)
		refused(t, of(at[0], at[1], append(slices.Clone(m.Args), api.Val{N: math.MaxUint64, S: text(70000)})...), api.ErrSyntax)
		if len(m.Args) == 0 {
			continue
		}
		refused(t, of(at[0], at[1]), api.ErrSyntax)
		refused(t, of(at[0], at[1], m.Args[1:]...), api.ErrSyntax)
		refused(t, of(at[0], at[1], m.Args[:len(m.Args)-1]...), api.ErrSyntax)
		wrong := slices.Repeat([]api.Val{{N: math.MaxUint64, S: text(131073)}}, len(m.Args)+1)
		refused(t, of(at[0], at[1], wrong...), api.ErrSyntax)
		refused(t, of(at[0], at[1], wrong[2:]...), api.ErrSyntax)
	}
}

// TestWrongValues (P6.1): each place of each method, with each thing that may not be there; of several the first one counts.
func TestWrongValues(t *testing.T) {
	for _, at := range sig.All() {
		letters, _ := sig.Of(at[0], at[1])
		for i := range len(letters) {
			for _, x := range faults(letters[i]) {
				m := plain(at[0], at[1])
				m.Args[i] = x.v
				refused(t, m, x.e)
				for k := i + 1; k < len(letters); k++ {
					m.Args[k] = faults(letters[k])[0].v
				}
				refused(t, m, x.e)
			}
		}
	}
}

// TestWhichErrorIsFirst (P6.1): value by value; of one value ErrBig ahead of ErrArg ahead of ErrForm.
func TestWhichErrorIsFirst(t *testing.T) {
	for _, x := range []struct {
		m api.Method
		e api.Errno
	}{
		{of(10, 11, s("z"), s(text(256)), n(1), s("")), api.ErrForm},
		{of(10, 11, s(noTable), s(text(256)), n(1), s("")), api.ErrBig},
		{of(10, 11, s(noTable), s(""), n(1), s(text(256))), api.ErrArg},
		{of(10, 10, s("z"), n(256), s("z"), s(""), s("")), api.ErrArg},
		{of(10, 10, n(256), s("z"), s("z"), s(""), s("")), api.ErrBig},
		{of(10, 10, n(255), n(255), s("z"), s(text(131073)), n(1)), api.ErrForm},
		{of(10, 10, n(255), n(255), api.Val{N: 1, S: "z"}, s(text(131073)), n(1)), api.ErrArg},
		{of(10, 10, api.Val{N: 256, S: "z"}, n(0), s("z"), s(""), s("")), api.ErrBig},
		{of(60, 120, s("z"), n(2), n(2)), api.ErrArg},
		{of(60, 120, n(0), n(2), s("z")), api.ErrBig},
		{of(60, 120, n(0), s("z"), n(2)), api.ErrArg},
		{of(60, 120, n(0), api.Val{N: 2, S: "z"}, n(0)), api.ErrBig},
		{of(60, 30, api.Val{N: 1, S: text(256)}, n(0)), api.ErrBig},
		{of(10, 20, api.Val{N: 1, S: text(131073)}), api.ErrBig},
	} {
		refused(t, x.m, x.e)
	}
}

// P6.2

// TestTakeMissing (P6.2): no beginning of a method's bytes is a method, nor are they with more behind them.
func TestTakeMissing(t *testing.T) {
	for _, at := range sig.All() {
		m := plain(at[0], at[1])
		letters, _ := sig.Of(at[0], at[1])
		for i := range len(letters) {
			m.Args[i] = some(letters[i])[1]
		}
		b := wanted(m)
		for k := range len(b) {
			untaken(t, b[:k])
		}
		for _, more := range []string{"\x00", "z", "\x00\x00\x00\x00", b} {
			untaken(t, b+more)
		}
	}
}

// TestTakeNoSuchMethod (P6.2): all small classes and ids that chapter 5 doesn't have, and some that are great.
func TestTakeNoSuchMethod(t *testing.T) {
	for class := range 300 {
		for id := range 300 {
			if _, is := sig.Of(class, id); !is {
				untaken(t, whole(2, uint64(class))+whole(2, uint64(id)))
			}
		}
	}
	for _, b := range []string{"\xff\xff\xff\xff", "\x0a\x00\x33\x00", "\x00\x33\x00\x0a", "\x00\x0a\x33\x00", "\x01\x0a\x00\x33", "\x00\x0a\x01\x33"} {
		untaken(t, b)
	}
}

// TestTakeBitsNotUsed (P6.2): each bit that isn't used, in each method that has bits.
func TestTakeBitsNotUsed(t *testing.T) {
	for _, at := range sig.All() {
		letters, _ := sig.Of(at[0], at[1])
		first, bits := strings.IndexByte(letters, 'b'), strings.Count(letters, "b")
		if bits == 0 {
			continue
		}
		m := plain(at[0], at[1])
		b := wanted(m)
		place := len(wanted(of(at[0], at[1], m.Args[:first]...)))
		for k := bits; k < 8; k++ {
			untaken(t, b[:place]+string([]byte{1 << k})+b[place+1:])
			untaken(t, b[:place]+string([]byte{1<<k | (1<<bits - 1)})+b[place+1:])
		}
	}
}

// TestTakeValuesThatMayNotBe (P6.2): tables that are none, and texts that are longer than a method's may be.
func TestTakeValuesThatMayNotBe(t *testing.T) {
	for _, x := range noTables() {
		untaken(t, "\x00\x0a\x00\x0b"+x+"\x00\x00\x00\x00\x00\x00") // 10, 11: TSLS
		untaken(t, "\x00\x28\x00\x0a\x00\x00\x00\x00\x00"+x)        // 40, 10: sSSbbbbbT
	}
	for _, x := range []string{nested(33), "\x00\x00\x00\x01a", "\x00\x00\x00\x04\x01az\x01"} {
		untaken(t, "\x00\x0a\x00\x0b"+x+"\x00"+noTable+"\x00")
	}
	for _, k := range []int{131073, 131074, 200000} {
		untaken(t, "\x00\x0a\x00\x14"+prefixed(4, text(k)))
		untaken(t, "\x00\x0a\x00\x0a\x00\x09"+noTable+prefixed(4, "PLAIN")+prefixed(4, text(k)))
		untaken(t, "\x00\x0a\x00\x0a\x00\x09"+noTable+prefixed(4, text(k))+prefixed(4, "en_US"))
	}
	if m, e := method.Take("\x00\x0a\x00\x14" + prefixed(4, text(131072))); !equal(m, of(10, 20, s(text(131072)))) || e != api.OK {
		t.Errorf("a text of 131072 bytes: %d", e)
	}
	if m, e := method.Take("\x00\x0a\x00\x29" + prefixed(1, text(255))); !equal(m, of(10, 41, s(text(255)))) || e != api.OK {
		t.Errorf("a text of 255 bytes: %d", e)
	}
	if m, e := method.Take("\x00\x0a\x00\x0b" + nested(32) + "\x00" + noTable + "\x00"); !equal(m, of(10, 11, s(nested(32)), s(""), s(""), s(""))) || e != api.OK {
		t.Errorf("a table of depth 32: %d", e)
	}
}

// places are such that no method has.
func places(m api.Method) []int {
	k := len(m.Args)
	return []int{-1, -2, -k, -k - 1, k, k + 1, 1 << 32, math.MaxInt, math.MinInt}
}

// TestArg (P6.2): each value, and nothing where there is none.
func TestArg(t *testing.T) {
	for _, m := range []api.Method{
		of(60, 60, s("c"), n(7), n(1), s("x"), s("k")),
		of(10, 51),
		of(1, 2, n(3), api.Val{N: 4, S: "z"}), // of one that isn't right too
		{},
	} {
		for i, v := range m.Args {
			if got := method.Arg(m, i); got != v {
				t.Errorf("Arg(%v, %d): %v", m, i, got)
			}
		}
		for _, i := range places(m) {
			if i == 0 && len(m.Args) > 0 {
				continue
			}
			if got := method.Arg(m, i); got != (api.Val{}) {
				t.Errorf("Arg(%v, %d): %v", m, i, got)
			}
		}
	}
}

// TestWith (P6.2): that value alone is another, right or not; nothing is, where there is none.
func TestWith(t *testing.T) {
	for _, m := range []api.Method{
		of(60, 60, s("c"), n(7), n(1), s("x"), s("k")),
		of(10, 51),
		of(1, 2, n(3), api.Val{N: 4, S: "z"}),
		{},
	} {
		kept := slices.Clone(m.Args)
		for _, v := range []api.Val{{}, n(9), s("new"), {N: math.MaxUint64, S: text(300)}} {
			for i := range m.Args {
				want := slices.Concat(kept[:i], []api.Val{v}, kept[i+1:])
				if got := method.With(m, i, v); !equal(got, of(m.Class, m.Id, want...)) {
					t.Errorf("With(%v, %d, %v): %v", m, i, v, got)
				}
			}
			for _, i := range places(m) {
				if i == 0 && len(m.Args) > 0 {
					continue
				}
				if got := method.With(m, i, v); !equal(got, of(m.Class, m.Id, kept...)) {
					t.Errorf("With(%v, %d, %v): %v", m, i, v, got)
				}
			}
		}
		if !slices.Equal(m.Args, kept) {
			t.Errorf("written into: %v", m)
		}
	}
}

// TestMake (P6.2): what is right is made as it was told.
func TestMake(t *testing.T) {
	each(func(m api.Method, _ string) {
		if k, e := method.Make(m.Class, m.Id, m.Args); !equal(k, m) || e != api.OK {
			t.Errorf("Make of %d, %d: %d", m.Class, m.Id, e)
		}
	})
	if m, e := method.Make(10, 51, []api.Val{}); !equal(m, of(10, 51)) || e != api.OK {
		t.Errorf("Make of no values: %v %d", m, e)
	}
}

// TestSame (P6.2): the same value by value, whether right or not.
func TestSame(t *testing.T) {
	l := []api.Method{
		{},
		of(10, 51), of(51, 10), of(10, 50), of(20, 51), of(-10, 51),
		of(10, 51, n(0)), of(10, 51, n(0), n(0)), of(10, 51, n(1)), of(10, 51, s("z")), of(10, 51, s("\x00")), of(10, 51, api.Val{N: 1, S: "z"}),
		of(60, 60, s("c"), n(7), n(1), s("x"), s("k")),
		of(60, 60, s("c"), n(7), n(0), s("x"), s("k")),
		of(60, 60, s("c"), n(7+1<<32), n(1), s("x"), s("k")),
		of(60, 60, s("d"), n(7), n(1), s("x"), s("k")),
		of(60, 60, s("c"), n(7), n(1), s("k"), s("x")),
		of(60, 60, s("c"), n(7), n(1), s("x"), s("kk")),
		of(60, 60, s("c"), n(7), n(1), s("x")),
		of(60, 60, n(7), s("c"), n(1), s("x"), s("k")),
	}
	for i, a := range l {
		for k, b := range l {
			b.Args = slices.Clone(b.Args)
			if got := method.Same(a, b); got != (i == k) {
				t.Errorf("Same(%v, %v): %v", a, b, got)
			}
		}
	}
	if !method.Same(api.Method{Class: 10, Id: 51}, api.Method{Class: 10, Id: 51, Args: []api.Val{}}) {
		t.Error("a list without elements is the same as none")
	}
}

// P6.3

// TestRightIsTaken (P6.3): a right method is taken as it was, and is laid as it was.
func TestRightIsTaken(t *testing.T) {
	each(func(m api.Method, _ string) {
		b, e := method.Bytes(m)
		if e != api.OK {
			t.Fatalf("Bytes of %d, %d: %d", m.Class, m.Id, e)
		}
		k, e := method.Take(b)
		if e != api.OK || !equal(k, m) || !method.Same(k, m) {
			t.Errorf("%d, %d isn't taken as it was: %d", m.Class, m.Id, e)
		}
		if again, e := method.Bytes(k); again != b || e != api.OK {
			t.Errorf("%d, %d isn't laid as it was: %d", m.Class, m.Id, e)
		}
	})
}

// holds tells whether b is refused, or taken as a right method that is laid as b.
func holds(t *testing.T, b string) bool {
	t.Helper()
	m, e := method.Take(b)
	if e != api.OK {
		untaken(t, b)
		return false
	}
	if e := method.Right(m); e != api.OK {
		t.Errorf("Take(%.40q) isn't right: %d", b, e)
	}
	if again, e := method.Bytes(m); again != b || e != api.OK {
		t.Errorf("Take(%.40q) is laid as %.40q, %d", b, again, e)
	}
	if k, e := method.Make(m.Class, m.Id, m.Args); !method.Same(k, m) || e != api.OK {
		t.Errorf("Take(%.40q) isn't made: %d", b, e)
	}
	return true
}

// TestTakenIsRight (P6.3): bytes that differ in one place from those of a method are refused, or are another that is right.
func TestTakenIsRight(t *testing.T) {
	for _, at := range sig.All() {
		letters, _ := sig.Of(at[0], at[1])
		m := plain(at[0], at[1])
		for i := range len(letters) {
			m.Args[i] = some(letters[i])[1]
		}
		b := wanted(m)
		for k := range len(b) {
			for x := range 256 {
				holds(t, b[:k]+string([]byte{byte(x)})+b[k+1:])
			}
			holds(t, b[:k]+b[k+1:])
		}
	}
}

func FuzzTake(f *testing.F) {
	for _, at := range sig.All() {
		f.Add(wanted(plain(at[0], at[1])))
	}
	f.Add("")
	f.Fuzz(func(t *testing.T, b string) { holds(t, b) })
}

// TestNothingIsShared (R3): who writes into what was handed in, or into an answer, changes nothing else.
func TestNothingIsShared(t *testing.T) {
	l := []api.Val{s("c"), n(7), n(1), s("x"), s("k"), s("behind")}
	kept := slices.Clone(l)
	made, _ := method.Make(60, 60, l[:5])
	m := of(60, 60, l[:5]...)
	other := method.With(m, 1, n(8))
	none := method.With(m, 5, n(8))
	below := method.With(m, -1, n(8))
	if _, e := method.Bytes(m); e != api.OK {
		t.Fatal(e)
	}
	for _, k := range []api.Method{made, other, none, below} {
		_ = append(k.Args, n(99))
		for i := range k.Args {
			k.Args[i] = n(99)
		}
	}
	if !slices.Equal(l, kept) {
		t.Errorf("what was handed in was written into: %v", l)
	}
	made, _ = method.Make(60, 60, l[:5])
	none = method.With(m, 5, n(8))
	l[0] = s("later")
	if made.Args[0] != kept[0] || none.Args[0] != kept[0] {
		t.Error("what was handed in was kept")
	}
	b := wanted(plain(60, 60))
	one, _ := method.Take(b)
	two, _ := method.Take(b)
	one.Args[0] = s("z")
	if two.Args[0] != s("") {
		t.Error("two answers share memory")
	}
}
