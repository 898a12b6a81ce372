package props_test

import (
	"encoding/binary"
	"fmt"
	"math"
	"slices"
	"strings"
	"testing"

	"interchange/api"
	"interchange/method"
	"interchange/props"
)

// letters are the chapter's, written out here: so a wrong one there is seen.
const letters = "SSTooSSSSqSSSS"

const noTable = "\x00\x00\x00\x00" // a table without fields

// oneField is a table of a, t 01.
const oneField = "\x00\x00\x00\x04\x01at\x01"

func n(v uint64) api.Val { return api.Val{N: v} }

func s(v string) api.Val { return api.Val{S: v} }

func text(k int) string { return strings.Repeat("x", k) }

// whole is a number in so many bytes.
func whole(width int, v uint64) string {
	return string(binary.BigEndian.AppendUint64(nil, v))[8-width:]
}

// prefixed is a text with its length in so many bytes ahead.
func prefixed(width int, t string) string { return whole(width, uint64(len(t))) + t }

// nested is a table of the depth that is told.
func nested(depth int) string {
	t := noTable
	for range depth - 1 {
		t = prefixed(4, "\x01aF"+t)
	}
	return t
}

// of is a head of those flags, class and size being right.
func of(flags uint64, l ...api.Val) api.Head {
	return api.Head{Class: 60, Size: 5, Flags: flags, Vals: l}
}

// at is the flag of the i-th property.
func at(i int) uint64 { return 0x8000 >> i }

// wanted are the bytes that the chapter says of a right head.
func wanted(h api.Head) string {
	b := whole(2, uint64(h.Class)) + "\x00\x00" + whole(8, h.Size) + whole(2, h.Flags)
	rest := h.Vals
	for i := range len(letters) {
		if h.Flags&at(i) == 0 {
			continue
		}
		switch v := rest[0]; letters[i] {
		case 'o':
			b += whole(1, v.N)
		case 'q':
			b += whole(8, v.N)
		case 'S':
			b += prefixed(1, v.S)
		case 'T':
			b += v.S
		}
		rest = rest[1:]
	}
	return b
}

// some are values that are right for a letter, the edges among them; none that is great beside what the letter bounds.
func some(letter byte) []api.Val {
	switch letter {
	case 'S':
		return []api.Val{s(""), s("q"), s("\x00\xce\xff"), s(text(254)), s(text(255))}
	case 'T':
		return []api.Val{s(noTable), s(oneField), s(nested(2)), s(nested(32)), s(prefixed(4, "\x01aS"+prefixed(4, text(300))))}
	case 'o':
		return []api.Val{n(0), n(1), n(2), n(254), n(255)}
	}
	return []api.Val{n(0), n(1), n(256), n(0x0102030405060708), n(math.MaxUint64 - 1), n(math.MaxUint64)}
}

// fault is a value that isn't right for a letter, and its error.
type fault struct {
	v api.Val
	e api.Errno
}

func faults(letter byte) []fault {
	switch letter {
	case 'S':
		return []fault{
			{s(text(256)), api.ErrBig}, {s(text(70000)), api.ErrBig}, {api.Val{N: 1, S: text(256)}, api.ErrBig},
			{n(1), api.ErrArg}, {n(math.MaxUint64), api.ErrArg}, {api.Val{N: 1, S: "q"}, api.ErrArg}, {api.Val{N: 1, S: text(255)}, api.ErrArg},
		}
	case 'T':
		l := []fault{{n(1), api.ErrArg}, {n(math.MaxUint64), api.ErrArg}, {api.Val{N: 1, S: noTable}, api.ErrArg}, {api.Val{N: 1, S: "z"}, api.ErrArg}}
		for _, t := range noTables() {
			l = append(l, fault{s(t), api.ErrForm})
		}
		return l
	case 'o':
		return []fault{
			{n(256), api.ErrBig}, {n(65536), api.ErrBig}, {n(math.MaxUint64), api.ErrBig}, {api.Val{N: 256, S: "z"}, api.ErrBig},
			{s("z"), api.ErrArg}, {s("\x00"), api.ErrArg}, {s(text(300)), api.ErrArg}, {api.Val{N: 255, S: "z"}, api.ErrArg},
		}
	}
	return []fault{{s("z"), api.ErrArg}, {s("\x00"), api.ErrArg}, {s(text(300)), api.ErrArg}, {api.Val{N: math.MaxUint64, S: "z"}, api.ErrArg}}
}

// noTables are bytes that are no table, or more than one.
func noTables() []string {
	return []string{
		"", "z", "\x00\x00\x00", noTable + "\x00", noTable + noTable, oneField + "z", oneField[:len(oneField)-1],
		"\x00\x00\x00\x01a", "\x00\x00\x00\x04\x01az\x01", "\x00\x00\x00\x03\x01at\x01", "\xff\xff\xff\xff", nested(33), nested(100),
	}
}

// filled is a right head of those flags; which values it has, turn tells.
func filled(flags uint64, turn int) api.Head {
	h := of(flags)
	for i := range len(letters) {
		if flags&at(i) != 0 {
			l := some(letters[i])
			h.Vals = append(h.Vals, l[(turn+i*i)%len(l)])
		}
	}
	return h
}

// few are choices of properties: none, each alone, each missing, pairs side by side, several, all.
func few() []uint64 {
	l := []uint64{0, 0xfffc, 0x9040, 0xaaa8, 0x5554, 0x3ac0, 0xff00, 0x00fc, 0x8004}
	for i := range len(letters) {
		l = append(l, at(i), 0xfffc&^at(i), (at(i)|at(i)>>1)&0xfffc)
	}
	return l
}

// each calls f for right heads of few choices, in some turns.
func each(f func(h api.Head)) {
	for _, flags := range few() {
		for turn := range 6 {
			f(filled(flags, turn))
		}
	}
}

func equal(a, b api.Head) bool {
	return a.Class == b.Class && a.Size == b.Size && a.Flags == b.Flags && slices.Equal(a.Vals, b.Vals)
}

func isZero(h api.Head) bool { return equal(h, api.Head{}) }

func clone(h api.Head) api.Head {
	h.Vals = slices.Clone(h.Vals)
	return h
}

// wrong are heads that aren't right, with the error of each.
func wrong() map[api.Errno][]api.Head {
	return map[api.Errno][]api.Head{
		api.ErrSyntax: {
			{}, {Flags: 0x8000, Vals: []api.Val{s("a")}}, {Class: 50, Flags: 0x8000, Vals: []api.Val{s("a")}},
			of(0x8000), of(0x8000, s("a"), s("b")), of(0, s("a")), of(0x8001, s("a")), of(0x8002, s("a")), of(0x18000, s("a")),
			of(0x8001, s("a"), s("b")), of(0x18000, s("a"), s("b")), of(0x28000, s("a"), s("b")),
		},
		api.ErrBig:  {{Class: 60, Size: 65537, Flags: 0x8000, Vals: []api.Val{s("a")}}, of(0x9000, s(text(256)), n(1)), of(0x9000, s("a"), n(256))},
		api.ErrArg:  {of(0x8000, n(1)), of(0x9000, s("a"), s("b")), of(0x8040, s("a"), s("b"))},
		api.ErrForm: {of(0x2000, s("")), of(0xa000, s("a"), s("z"))},
	}
}

// shown is a value as a failed test tells it.
func shown(v api.Val) string { return fmt.Sprintf("%d and %.40q", v.N, v.S) }

// shownHead is a head as a failed test tells it.
func shownHead(h api.Head) string {
	l := make([]string, len(h.Vals))
	for i, v := range h.Vals {
		l[i] = shown(v)
	}
	return fmt.Sprintf("class %d, size %d, flags %#x, values %s", h.Class, h.Size, h.Flags, strings.Join(l, ", "))
}

// refused holds that Right and Bytes tell the error, Get and Set that it isn't right, and all nothing beside it.
func refused(t *testing.T, h api.Head, e api.Errno) {
	t.Helper()
	if got := props.Right(h); got != e {
		t.Errorf("Right of flags %#x, %d values: %d, not %d", h.Flags, len(h.Vals), got, e)
	}
	if b, got := props.Bytes(h); b != "" || got != e {
		t.Errorf("Bytes of flags %#x, %d values: %.40q %d, not %d", h.Flags, len(h.Vals), b, got, e)
	}
	for _, i := range []int{-1, 0, 3, 9, 13, 14} {
		if v, is := props.Get(h, i); v != (api.Val{}) || is {
			t.Errorf("Get of flags %#x, %d: %s %v", h.Flags, i, shown(v), is)
		}
		for _, v := range []api.Val{{}, n(1), s("z"), s(noTable), s(text(256)), {N: 256, S: "z"}} {
			if k, got := props.Set(h, i, v); !equal(k, h) || got != api.ErrArg {
				t.Errorf("Set of flags %#x, %d: flags %#x, %d values, %d", h.Flags, i, k.Flags, len(k.Vals), got)
			}
		}
	}
}

// untaken holds that Take tells the error, and nothing beside it.
func untaken(t *testing.T, b string, e api.Errno) {
	t.Helper()
	if h, got := props.Take(b); !isZero(h) || got != e {
		t.Errorf("Take(%.60q): %d, flags %#x, %d values, %d, not %d", b, h.Class, h.Flags, len(h.Vals), got, e)
	}
}

// P7.1

// TestLetters (P7.1).
func TestLetters(t *testing.T) {
	if got := props.Letters(); got != letters {
		t.Errorf("Letters: %q", got)
	}
}

// TestBytes (P7.1): none, each alone, several and all, their bytes written out.
func TestBytes(t *testing.T) {
	const begin = "\x00\x3c\x00\x00\x00\x00\x00\x00\x00\x00\x00\x05"
	for _, x := range []struct {
		h api.Head
		b string
	}{
		{of(0), begin + "\x00\x00"},
		{of(0x8000, s("a/b")), begin + "\x80\x00\x03a/b"},
		{of(0x4000, s("gz")), begin + "\x40\x00\x02gz"},
		{of(0x2000, s(oneField)), begin + "\x20\x00" + oneField},
		{of(0x1000, n(2)), begin + "\x10\x00\x02"},
		{of(0x0800, n(255)), begin + "\x08\x00\xff"},
		{of(0x0400, s("id")), begin + "\x04\x00\x02id"},
		{of(0x0200, s("to")), begin + "\x02\x00\x02to"},
		{of(0x0100, s("60000")), begin + "\x01\x00\x0560000"},
		{of(0x0080, s("m")), begin + "\x00\x80\x01m"},
		{of(0x0040, n(0x0102030405060708)), begin + "\x00\x40\x01\x02\x03\x04\x05\x06\x07\x08"},
		{of(0x0020, s("t")), begin + "\x00\x20\x01t"},
		{of(0x0010, s("u")), begin + "\x00\x10\x01u"},
		{of(0x0008, s("")), begin + "\x00\x08\x00"},
		{of(0x0004, s("\x00\xff")), begin + "\x00\x04\x02\x00\xff"},
		{of(0x9040, s("a/b"), n(2), n(5)), begin + "\x90\x40\x03a/b\x02\x00\x00\x00\x00\x00\x00\x00\x05"},
		{
			of(0xfffc, s("a"), s("b"), s(noTable), n(1), n(9), s("c"), s("d"), s("e"), s("f"), n(258), s("g"), s("h"), s("i"), s("j")),
			begin + "\xff\xfc\x01a\x01b" + noTable + "\x01\x09\x01c\x01d\x01e\x01f\x00\x00\x00\x00\x00\x00\x01\x02\x01g\x01h\x01i\x01j",
		},
		{api.Head{Class: 60}, "\x00\x3c\x00\x00\x00\x00\x00\x00\x00\x00\x00\x00\x00\x00"},
		{api.Head{Class: 60, Size: 65535}, "\x00\x3c\x00\x00\x00\x00\x00\x00\x00\x00\xff\xff\x00\x00"},
		{api.Head{Class: 60, Size: 65536}, "\x00\x3c\x00\x00\x00\x00\x00\x00\x00\x01\x00\x00\x00\x00"},
	} {
		if e := props.Right(x.h); e != api.OK {
			t.Errorf("Right of %s: %d", shownHead(x.h), e)
		}
		if b, e := props.Bytes(x.h); b != x.b || e != api.OK {
			t.Errorf("Bytes of %s: %q %d, not %q", shownHead(x.h), b, e, x.b)
		}
		if h, e := props.Take(x.b); !equal(h, x.h) || e != api.OK {
			t.Errorf("Take(%q): %s, %d, not %s", x.b, shownHead(h), e, shownHead(x.h))
		}
	}
}

// TestEveryChoice (P7.1): all choices of properties, with the edges of each letter by turns.
func TestEveryChoice(t *testing.T) {
	for choice := range 1 << len(letters) {
		h := filled(uint64(choice)<<2, choice%29)
		want := wanted(h)
		if e := props.Right(h); e != api.OK {
			t.Errorf("Right of flags %#x: %d", h.Flags, e)
		}
		if b, e := props.Bytes(h); b != want || e != api.OK {
			t.Errorf("Bytes of flags %#x: %.80q %d, not %.80q", h.Flags, b, e, want)
		}
		if k, e := props.Take(want); !equal(k, h) || e != api.OK {
			t.Errorf("Take of flags %#x: flags %#x, %d values, %d", h.Flags, k.Flags, len(k.Vals), e)
		}
	}
}

// TestGreatTable (P7.1): a table is bounded by nothing but its depth.
func TestGreatTable(t *testing.T) {
	h := of(0x2004, s(prefixed(4, "\x01aS"+prefixed(4, text(200000)))), s("z"))
	if b, e := props.Bytes(h); b != wanted(h) || e != api.OK {
		t.Errorf("Bytes: %d bytes, %d", len(b), e)
	}
	if k, e := props.Take(wanted(h)); !equal(k, h) || e != api.OK {
		t.Errorf("Take: %d", e)
	}
}

// TestClass (P7.1): every class but 60, ahead of all else that isn't right.
func TestClass(t *testing.T) {
	for _, class := range []int{0, 1, 10, 20, 40, 50, 59, 61, 85, 90, -60, 60 + 1<<8, 60 + 1<<16, 60 + 1<<32, 60 << 8, math.MaxInt, math.MinInt} {
		for _, h := range []api.Head{of(0), of(0x9040, s("a/b"), n(2), n(5)), of(0x8000, n(1)), {Size: 65537}} {
			h.Class = class
			refused(t, h, api.ErrSyntax)
		}
	}
}

// TestFlags (P7.1): bits that tell no property, however many values there are.
func TestFlags(t *testing.T) {
	more := []uint64{1, 2, 3, 65536, 65537, math.MaxUint64, math.MaxUint64 &^ 3}
	for k := 16; k < 64; k++ {
		more = append(more, 1<<k)
	}
	for _, bits := range more {
		for _, h := range []api.Head{of(0), of(0x8000, s("a")), filled(0xfffc, 1)} {
			h.Flags |= bits
			refused(t, h, api.ErrSyntax)
			for range 3 { // as many values as there are flags, and more
				h.Vals = append(slices.Clone(h.Vals), api.Val{})
				refused(t, h, api.ErrSyntax)
			}
		}
	}
}

// TestHowManyValues (P7.1): one missing, one too many, none; ahead of Size and of what the values are.
func TestHowManyValues(t *testing.T) {
	bad := api.Val{N: math.MaxUint64, S: text(300)}
	for _, flags := range few() {
		h := filled(flags, 1)
		for _, size := range []uint64{5, 65537} {
			h.Size = size
			for _, v := range []api.Val{{}, n(1), bad} {
				k := h
				k.Vals = append(slices.Clone(h.Vals), v)
				refused(t, k, api.ErrSyntax)
			}
			if flags == 0 {
				continue
			}
			k := h
			for _, k.Vals = range [][]api.Val{nil, h.Vals[1:], h.Vals[:len(h.Vals)-1], slices.Repeat([]api.Val{bad}, len(h.Vals)+1), slices.Repeat([]api.Val{bad}, len(h.Vals)-1)} {
				refused(t, k, api.ErrSyntax)
			}
		}
	}
}

// TestSize (P7.1): up to 65536; more is ErrBig, ahead of what the values are.
func TestSize(t *testing.T) {
	for _, h := range []api.Head{of(0), of(0x9040, s("a/b"), n(2), n(5)), filled(0xfffc, 1)} {
		for _, h.Size = range []uint64{0, 1, 255, 65535, 65536} {
			if b, e := props.Bytes(h); b != wanted(h) || e != api.OK {
				t.Errorf("Size %d: %.40q %d", h.Size, b, e)
			}
			if k, e := props.Take(wanted(h)); !equal(k, h) || e != api.OK {
				t.Errorf("Size %d: taken as %d, %d", h.Size, k.Size, e)
			}
		}
		for _, h.Size = range []uint64{65537, 65538, 1 << 17, 1 << 32, 1<<32 + 5, 1 << 63, math.MaxUint64} {
			refused(t, h, api.ErrBig)
			untaken(t, wanted(h), api.ErrBig)
		}
	}
	refused(t, api.Head{Class: 60, Size: 65537, Flags: 0x8000, Vals: []api.Val{n(1)}}, api.ErrBig)
	refused(t, api.Head{Class: 60, Size: 65537, Flags: 0x2000, Vals: []api.Val{s("z")}}, api.ErrBig)
}

// TestWrongValues (P7.1): each property with each thing that may not be there, alone and among others; of several the first one counts.
func TestWrongValues(t *testing.T) {
	for i := range len(letters) {
		for _, x := range faults(letters[i]) {
			refused(t, of(at(i), x.v), x.e)
			h := filled(0xfffc, 1)
			h.Vals[i] = x.v
			refused(t, h, x.e)
			for k := i + 1; k < len(letters); k++ {
				h.Vals[k] = faults(letters[k])[0].v
			}
			refused(t, h, x.e)
		}
	}
}

// TestWrongHeads (P7.1, P7.2): the edges that stand beside each other.
func TestWrongHeads(t *testing.T) {
	for e, l := range wrong() {
		for _, h := range l {
			refused(t, h, e)
		}
	}
}

// TestAsMethodSays (P7.1): what is right by a letter, chapter 6 says; so a method with that letter tells the same error.
func TestAsMethodSays(t *testing.T) {
	like := func(letter byte, v api.Val) api.Method {
		switch letter {
		case 'o':
			return api.Method{Class: 10, Id: 10, Args: []api.Val{v, n(9), s(noTable), s(""), s("")}}
		case 'q':
			return api.Method{Class: 60, Id: 80, Args: []api.Val{v, n(0)}}
		case 'S':
			return api.Method{Class: 60, Id: 21, Args: []api.Val{v}}
		}
		return api.Method{Class: 10, Id: 11, Args: []api.Val{v, s(""), s(""), s("")}}
	}
	for i := range len(letters) {
		l := some(letters[i])
		for _, letter := range []byte("SToq") {
			for _, x := range faults(letter) {
				l = append(l, x.v)
			}
			l = append(l, some(letter)...)
		}
		for _, v := range l {
			want := method.Right(like(letters[i], v))
			if e := props.Right(of(at(i), v)); e != want {
				t.Errorf("property %d, %d and %.40q: %d, not %d", i, v.N, v.S, e, want)
			}
			if _, e := props.Set(of(0), i, v); e != want {
				t.Errorf("Set of property %d, %d and %.40q: %d, not %d", i, v.N, v.S, e, want)
			}
		}
	}
}

// TestTakeMissing (P7.1): every beginning of a head's bytes, and more behind them.
func TestTakeMissing(t *testing.T) {
	for _, flags := range few() {
		b := wanted(filled(flags, 1))
		for k := range len(b) {
			untaken(t, b[:k], api.ErrSyntax)
		}
		for _, more := range []string{"\x00", "z", "\x00\x00\x00\x00", b} {
			untaken(t, b+more, api.ErrSyntax)
		}
	}
}

// TestTakeBeginning (P7.1): another class, two bytes that aren't 0, flags that tell no property.
func TestTakeBeginning(t *testing.T) {
	for _, flags := range []uint64{0, 0x9040, 0xfffc} {
		b := wanted(filled(flags, 1))
		for v := range uint64(1 << 16) {
			if v != 60 {
				untaken(t, whole(2, v)+b[2:], api.ErrSyntax)
			}
			if v != 0 {
				untaken(t, b[:2]+whole(2, v)+b[4:], api.ErrSyntax)
			}
		}
		for _, bits := range []uint64{1, 2, 3} {
			for _, more := range []string{"", "\x00", "\x00\x00", "\x01z"} {
				untaken(t, b[:12]+whole(2, flags|bits)+b[14:]+more, api.ErrSyntax)
			}
		}
	}
}

// TestTakeValuesThatMayNotBe (P7.1): tables that are none, whatever stands behind them.
func TestTakeValuesThatMayNotBe(t *testing.T) {
	const begin = "\x00\x3c\x00\x00\x00\x00\x00\x00\x00\x00\x00\x05"
	for _, x := range noTables() {
		untaken(t, begin+"\x20\x00"+x, api.ErrSyntax)
		untaken(t, begin+"\xa0\x00\x01a"+x, api.ErrSyntax)
	}
	for _, x := range []string{nested(33), "\x00\x00\x00\x01a", "\x00\x00\x00\x04\x01az\x01", "\x00\x00\x00\x03\x01at\x01"} {
		for _, more := range []string{"", "\x00", "\x01z", "\x05"} {
			untaken(t, begin+"\x20\x00"+x+more, api.ErrSyntax)
			untaken(t, begin+"\x30\x00"+x+more, api.ErrSyntax)
			untaken(t, begin+"\x24\x00"+x+more, api.ErrSyntax)
		}
	}
}

// TestTakeSizeIsLast (P7.1): a Size that is too great counts behind all else.
func TestTakeSizeIsLast(t *testing.T) {
	for _, size := range []uint64{65537, 1 << 32, math.MaxUint64} {
		h := of(0xa000, s("a"), s(oneField))
		h.Size = size
		b := wanted(h)
		untaken(t, b, api.ErrBig)
		for k := range len(b) {
			untaken(t, b[:k], api.ErrSyntax)
		}
		untaken(t, b+"\x00", api.ErrSyntax)
		untaken(t, "\x00\x32"+b[2:], api.ErrSyntax)
		untaken(t, b[:3]+"\x01"+b[4:], api.ErrSyntax)
		untaken(t, b[:13]+"\x01"+b[14:], api.ErrSyntax)
		untaken(t, b[:13]+"\x02"+b[14:]+"\x00", api.ErrSyntax)
		untaken(t, b[:len(b)-2]+"z\x01", api.ErrSyntax)
	}
}

// P7.2

// places are such that no property has.
func places() []int {
	return []int{-1, -2, -14, -15, 14, 15, 16, 63, 64, 78, 1 << 32, math.MaxInt, math.MinInt}
}

// TestGet (P7.2): each property that a head has, and nothing of those that it hasn't.
func TestGet(t *testing.T) {
	each(func(h api.Head) {
		rest := h.Vals
		for i := range len(letters) {
			want, has := api.Val{}, h.Flags&at(i) != 0
			if has {
				want, rest = rest[0], rest[1:]
			}
			if v, is := props.Get(h, i); v != want || is != has {
				t.Errorf("Get of flags %#x, %d: %s %v, not %s %v", h.Flags, i, shown(v), is, shown(want), has)
			}
		}
		for _, i := range places() {
			if v, is := props.Get(h, i); v != (api.Val{}) || is {
				t.Errorf("Get of flags %#x, %d: %s %v", h.Flags, i, shown(v), is)
			}
		}
	})
}

// TestSet (P7.2): of a property that it has another value, of one that it hasn't that value in its place; all else stays.
func TestSet(t *testing.T) {
	each(func(h api.Head) {
		for i := range len(letters) {
			for _, v := range some(letters[i]) {
				want := of(h.Flags | at(i))
				rest := h.Vals
				for k := range len(letters) {
					if h.Flags&at(k) != 0 {
						want.Vals, rest = append(want.Vals, rest[0]), rest[1:]
					} else if k == i {
						want.Vals = append(want.Vals, api.Val{})
					}
					if k == i {
						want.Vals[len(want.Vals)-1] = v
					}
				}
				if k, e := props.Set(h, i, v); !equal(k, want) || e != api.OK {
					t.Errorf("Set of flags %#x, %d: flags %#x, %d values, %d", h.Flags, i, k.Flags, len(k.Vals), e)
				}
			}
		}
	})
}

// TestSetWrong (P7.2): no such property, ahead of what the value is; a value that isn't right. The head comes back.
func TestSetWrong(t *testing.T) {
	each(func(h api.Head) {
		h.Size = 65536
		for _, i := range places() {
			for _, v := range []api.Val{{}, n(1), s("z"), s(noTable), s(text(256)), {N: 256, S: "z"}} {
				if k, e := props.Set(h, i, v); !equal(k, h) || e != api.ErrArg {
					t.Errorf("Set of flags %#x, %d: flags %#x, %d values, %d", h.Flags, i, k.Flags, len(k.Vals), e)
				}
			}
		}
		for i := range len(letters) {
			for _, x := range faults(letters[i]) {
				if k, e := props.Set(h, i, x.v); !equal(k, h) || e != x.e {
					t.Errorf("Set of flags %#x, %d: flags %#x, %d values, %d, not %d", h.Flags, i, k.Flags, len(k.Vals), e, x.e)
				}
			}
		}
	})
}

// TestSame (P7.2): the same class, size, flags and values, whether right or not.
func TestSame(t *testing.T) {
	l := []api.Head{
		{}, {Class: 60}, {Class: 61}, {Class: -60}, {Size: 60}, {Flags: 60},
		{Class: 60, Size: 5}, {Class: 60, Size: 5 + 1<<32}, {Class: 60, Size: 5, Flags: 1}, {Class: 60, Size: 5, Flags: 1 << 63},
		of(0, n(0)), of(0, n(0), n(0)), of(0, n(1)), of(0, s("z")), of(0, api.Val{N: 1, S: "z"}),
		of(0x9040, s("a/b"), n(2), n(5)),
		of(0x9040, s("a/c"), n(2), n(5)),
		of(0x9040, s("a/b"), n(3), n(5)),
		of(0x9040, s("a/b"), n(5), n(2)),
		of(0x9040, s("a/b"), n(2), n(5+1<<32)),
		of(0x9040, s("a/b"), n(2), n(6)),
		of(0x9040, s("a/b"), n(2)),
		of(0x9040, s("a/b"), n(2), n(5), n(0)),
		of(0x9020, s("a/b"), n(2), n(5)),
		{Class: 60, Size: 6, Flags: 0x9040, Vals: []api.Val{s("a/b"), n(2), n(5)}},
		{Class: 50, Size: 5, Flags: 0x9040, Vals: []api.Val{s("a/b"), n(2), n(5)}},
	}
	for i, a := range l {
		for k, b := range l {
			if got := props.Same(a, clone(b)); got != (i == k) {
				t.Errorf("Same of %s; %s: %v", shownHead(a), shownHead(b), got)
			}
		}
	}
	if !props.Same(api.Head{Class: 60}, api.Head{Class: 60, Vals: []api.Val{}}) {
		t.Error("a list without elements is the same as none")
	}
}

// P7.3

// TestRightIsTaken (P7.3): a right head is taken as it was, and laid as it was.
func TestRightIsTaken(t *testing.T) {
	each(func(h api.Head) {
		b, e := props.Bytes(h)
		if e != api.OK {
			t.Fatalf("Bytes of flags %#x: %d", h.Flags, e)
		}
		k, e := props.Take(b)
		if e != api.OK || !equal(k, h) || !props.Same(k, h) {
			t.Errorf("flags %#x: isn't taken as it was: %d", h.Flags, e)
		}
		if again, e := props.Bytes(k); again != b || e != api.OK {
			t.Errorf("flags %#x: isn't laid as it was: %d", h.Flags, e)
		}
	})
}

// TestSetIsGot (P7.3): what was set is got, of a head that is right; all others are as they were.
func TestSetIsGot(t *testing.T) {
	each(func(h api.Head) {
		for i := range len(letters) {
			for _, v := range some(letters[i]) {
				k, e := props.Set(h, i, v)
				if e != api.OK || props.Right(k) != api.OK || k.Class != h.Class || k.Size != h.Size {
					t.Errorf("flags %#x, property %d: isn't right any more: %d", h.Flags, i, e)
				}
				if got, is := props.Get(k, i); got != v || !is {
					t.Errorf("flags %#x, property %d: isn't got: %s %v", h.Flags, i, shown(got), is)
				}
				for other := range len(letters) {
					was, had := props.Get(h, other)
					if got, is := props.Get(k, other); other != i && (got != was || is != had) {
						t.Errorf("flags %#x, property %d: property %d isn't as it was", h.Flags, i, other)
					}
				}
			}
		}
	})
}

// TestSetInAnyOrder (P7.3): in whatever order all properties are set, the head is the same.
func TestSetInAnyOrder(t *testing.T) {
	want := filled(0xfffc, 3)
	for _, step := range []int{1, 3, 5, 9, 11, 13} { // none shares a divisor with 14: so each property comes once
		for start := range len(letters) {
			h := of(0)
			for k := range len(letters) {
				i := (start + k*step) % len(letters)
				var e api.Errno
				if h, e = props.Set(h, i, want.Vals[i]); e != api.OK {
					t.Fatalf("property %d: %d", i, e)
				}
			}
			if !props.Same(h, want) {
				t.Errorf("from %d on, by %d: flags %#x", start, step, h.Flags)
			}
		}
	}
}

// holds tells whether b is refused, or taken as a right head that is laid as b.
func holds(t *testing.T, b string) bool {
	t.Helper()
	h, e := props.Take(b)
	switch e {
	case api.OK:
	case api.ErrBig:
		if len(b) < 14 || binary.BigEndian.Uint64([]byte(b[4:12])) <= 65536 {
			t.Errorf("Take(%.60q): %d", b, e)
		}
		fallthrough
	default:
		if !isZero(h) || e != api.ErrBig && e != api.ErrSyntax {
			t.Errorf("Take(%.60q): %d, with %s", b, e, shownHead(h))
		}
		return false
	}
	if e := props.Right(h); e != api.OK {
		t.Errorf("Take(%.60q) isn't right: %d", b, e)
	}
	if again, e := props.Bytes(h); again != b || e != api.OK {
		t.Errorf("Take(%.60q) is laid as %.60q, %d", b, again, e)
	}
	return true
}

// TestTakenIsRight (P7.3): bytes that differ in one place from those of a head are refused, or are another that is right.
func TestTakenIsRight(t *testing.T) {
	for _, flags := range few() {
		b := wanted(filled(flags, 1))
		for k := range min(len(b), 60) {
			for x := range 256 {
				holds(t, b[:k]+string([]byte{byte(x)})+b[k+1:])
			}
			holds(t, b[:k]+b[k+1:])
		}
	}
}

func FuzzTake(f *testing.F) {
	for _, flags := range few() {
		f.Add(wanted(filled(flags, 1)))
	}
	f.Add("")
	f.Fuzz(func(t *testing.T, b string) { holds(t, b) })
}

// TestNothingIsShared (R3): who writes into what was handed in, or into an answer, changes nothing else.
func TestNothingIsShared(t *testing.T) {
	l := []api.Val{s("a/b"), n(2), n(5), s("behind"), s("more")}
	kept := slices.Clone(l)
	h := of(0x9040, l[:3]...)
	heads := func() []api.Head {
		other, _ := props.Set(h, 3, n(1))
		more, _ := props.Set(h, 1, s("gz"))
		last, _ := props.Set(h, 13, s("z"))
		none, _ := props.Set(h, 14, n(1))
		bad, _ := props.Set(h, 3, n(256))
		return []api.Head{other, more, last, none, bad}
	}
	was := heads()
	for i, k := range heads() {
		if _, e := props.Bytes(k); e != api.OK {
			t.Fatal(i, e)
		}
		_ = append(k.Vals, n(99))
		for j := range k.Vals {
			k.Vals[j] = n(99)
		}
	}
	if !slices.Equal(l, kept) {
		t.Errorf("what was handed in was written into: %v", l)
	}
	h.Vals[0], h.Vals[1], h.Vals[2] = s("later"), n(7), n(8)
	h.Vals = kept[:3]
	for i, k := range heads() {
		if !equal(k, was[i]) {
			t.Errorf("what was handed in was kept: %s", shownHead(was[i]))
		}
	}
	b := wanted(of(0x9040, kept[:3]...))
	one, _ := props.Take(b)
	two, _ := props.Take(b)
	one.Vals[0] = s("z")
	if two.Vals[0] != s("a/b") {
		t.Error("two answers share memory")
	}
}
