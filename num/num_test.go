package num_test

import (
	"math"
	"slices"
	"strings"
	"testing"

	"interchange/api"
	"interchange/num"
)

var widths = []int{1, 2, 4, 8}

var wrongWidths = []int{math.MinInt, -8, -4, -2, -1, 0, 3, 5, 6, 7, 9, 16, 64, 256, math.MaxInt}

var tails = []string{"", "z", "\x00", "\xff\xff\xff\xff\xff\xff\xff\xff\xff"}

// top is the greatest number of n bytes.
func top(n int) uint64 { return math.MaxUint64 >> (64 - 8*n) }

// numbers are some numbers that n bytes hold, the edges among them.
func numbers(n int) []uint64 {
	l := []uint64{0, 1, 127, 128, 255, top(n) - 1, top(n), top(n)>>1 + 1, 0x0102030405060708 & top(n)}
	for i := range 8 * n {
		l = append(l, 1<<i)
	}
	return l
}

// pattern are n bits that differ by seed.
func pattern(n int, seed uint64) []bool {
	l := make([]bool, n)
	for i := range l {
		seed = seed*6364136223846793005 + 1442695040888963407
		l[i] = seed>>63 == 1
	}
	return l
}

// P1.1

func TestPut(t *testing.T) {
	for _, x := range []struct {
		n int
		v uint64
		s string
	}{
		{1, 0, "\x00"},
		{1, 7, "\x07"},
		{1, 255, "\xff"},
		{2, 0, "\x00\x00"},
		{2, 258, "\x01\x02"},
		{2, 65535, "\xff\xff"},
		{4, 0, "\x00\x00\x00\x00"},
		{4, 0x01020304, "\x01\x02\x03\x04"},
		{4, math.MaxUint32, "\xff\xff\xff\xff"},
		{8, 0, "\x00\x00\x00\x00\x00\x00\x00\x00"},
		{8, 0x0102030405060708, "\x01\x02\x03\x04\x05\x06\x07\x08"},
		{8, 1 << 63, "\x80\x00\x00\x00\x00\x00\x00\x00"},
		{8, math.MaxUint64, "\xff\xff\xff\xff\xff\xff\xff\xff"},
	} {
		if s, e := num.Put(x.n, x.v); s != x.s || e != api.OK {
			t.Errorf("Put(%d, %d): %q %d, not %q", x.n, x.v, s, e, x.s)
		}
	}
}

func TestPutWrongWidth(t *testing.T) {
	for _, n := range wrongWidths {
		for _, v := range []uint64{0, 1, 256, math.MaxUint64} {
			if s, e := num.Put(n, v); s != "" || e != api.ErrArg {
				t.Errorf("Put(%d, %d): %q %d", n, v, s, e)
			}
		}
	}
}

func TestPutTooGreat(t *testing.T) {
	for _, n := range []int{1, 2, 4} {
		for _, v := range []uint64{top(n) + 1, top(n) + 2, 1 << 32, 1 << 63, math.MaxUint64} {
			if s, e := num.Put(n, v); s != "" || e != api.ErrBig {
				t.Errorf("Put(%d, %d): %q %d", n, v, s, e)
			}
		}
		if s, e := num.Put(n, top(n)); s != strings.Repeat("\xff", n) || e != api.OK {
			t.Errorf("Put(%d, %d): %q %d", n, top(n), s, e)
		}
	}
}

func TestTake(t *testing.T) {
	for _, x := range []struct {
		s    string
		n    int
		v    uint64
		rest string
	}{
		{"\x00", 1, 0, ""},
		{"\xffab", 1, 255, "ab"},
		{"\x01\x02", 2, 258, ""},
		{"\x01\x02\x03", 2, 258, "\x03"},
		{"\x80\x00\x00\x01z", 4, 1<<31 + 1, "z"},
		{"\x01\x02\x03\x04\x05\x06\x07\x08", 8, 0x0102030405060708, ""},
		{"\xff\xff\xff\xff\xff\xff\xff\xff\xfe", 8, math.MaxUint64, "\xfe"},
	} {
		if v, r, e := num.Take(x.s, x.n); v != x.v || r != x.rest || e != api.OK {
			t.Errorf("Take(%q, %d): %d %q %d", x.s, x.n, v, r, e)
		}
	}
}

func TestTakeWrongWidth(t *testing.T) {
	for _, n := range wrongWidths {
		for _, s := range []string{"", "a", strings.Repeat("a", 300)} {
			if v, r, e := num.Take(s, n); v != 0 || r != "" || e != api.ErrArg {
				t.Errorf("Take(%q, %d): %d %q %d", s, n, v, r, e)
			}
		}
	}
}

func TestTakeTooFew(t *testing.T) {
	for _, n := range widths {
		for k := range n {
			if v, r, e := num.Take(strings.Repeat("a", k), n); v != 0 || r != "" || e != api.ErrMore {
				t.Errorf("Take of %d bytes, %d: %d %q %d", k, n, v, r, e)
			}
		}
		if _, r, e := num.Take(strings.Repeat("a", n), n); r != "" || e != api.OK {
			t.Errorf("Take of %d bytes, %d: %q %d", n, n, r, e)
		}
	}
}

// P1.2

func TestBits(t *testing.T) {
	const y, n = true, false
	for _, x := range []struct {
		l []bool
		s string
	}{
		{nil, ""},
		{[]bool{}, ""},
		{[]bool{n}, "\x00"},
		{[]bool{y}, "\x01"},
		{[]bool{y, n, y}, "\x05"},
		{[]bool{n, n, n, n, n, n, n, y}, "\x80"},
		{[]bool{y, y, y, y, y, y, y, y}, "\xff"},
		{[]bool{n, n, n, n, n, n, n, n, y}, "\x00\x01"},
		{[]bool{y, n, n, n, n, n, n, n, n}, "\x01\x00"},
		{[]bool{y, n, n, n, n, n, n, y, n, y}, "\x81\x02"},
		{slices.Repeat([]bool{n}, 17), "\x00\x00\x00"},
		{slices.Repeat([]bool{y}, 64), strings.Repeat("\xff", 8)},
		{slices.Repeat([]bool{y}, 65), strings.Repeat("\xff", 8) + "\x01"},
		{slices.Repeat([]bool{y}, 1001), strings.Repeat("\xff", 125) + "\x01"},
	} {
		if s := num.Bits(x.l); s != x.s {
			t.Errorf("Bits(%v): %q, not %q", x.l, s, x.s)
		}
	}
}

func TestBitsOneByOne(t *testing.T) {
	for k := range 70 {
		l := make([]bool, 70)
		l[k] = true
		b := make([]byte, 9)
		b[k/8] = 1 << (k % 8)
		if s := num.Bits(l); s != string(b) {
			t.Errorf("bit %d: %q", k, s)
		}
	}
}

func TestBitsLeavesWhatItIsGiven(t *testing.T) {
	whole := pattern(40, 3)
	kept := slices.Clone(whole)
	s := num.Bits(whole[:13])
	if !slices.Equal(whole, kept) {
		t.Errorf("written into: %v", whole)
	}
	if again := num.Bits(whole[:13]); again != s {
		t.Errorf("%q, then %q", s, again)
	}
}

func TestTakeBits(t *testing.T) {
	const y, n = true, false
	for _, x := range []struct {
		s    string
		n    int
		l    []bool
		rest string
	}{
		{"", 0, nil, ""},
		{"\xff", 0, nil, "\xff"},
		{"\x00", 1, []bool{n}, ""},
		{"\x01", 1, []bool{y}, ""},
		{"\x05", 3, []bool{y, n, y}, ""},
		{"\x05\xff", 3, []bool{y, n, y}, "\xff"},
		{"\x40z", 7, []bool{n, n, n, n, n, n, y}, "z"},
		{"\x80\x01", 8, []bool{n, n, n, n, n, n, n, y}, "\x01"},
		{"\x80\x01z", 9, []bool{n, n, n, n, n, n, n, y, y}, "z"},
		{strings.Repeat("\xff", 9), 64, slices.Repeat([]bool{y}, 64), "\xff"},
	} {
		if l, r, e := num.TakeBits(x.s, x.n); !slices.Equal(l, x.l) || r != x.rest || e != api.OK {
			t.Errorf("TakeBits(%q, %d): %v %q %d", x.s, x.n, l, r, e)
		}
	}
}

func TestTakeBitsWrongCount(t *testing.T) {
	for _, n := range []int{math.MinInt, math.MinInt + 1, -64, -8, -1, 65, 72, 128, math.MaxInt - 7, math.MaxInt} {
		for _, s := range []string{"", "\x00", "\xff", strings.Repeat("\xff", 100)} {
			if l, r, e := num.TakeBits(s, n); len(l) != 0 || r != "" || e != api.ErrArg {
				t.Errorf("TakeBits(%q, %d): %v %q %d", s, n, l, r, e)
			}
		}
	}
}

func TestTakeBitsTooFew(t *testing.T) {
	for n := 1; n <= 64; n++ {
		need := (n + 7) / 8
		for k := range need {
			if l, r, e := num.TakeBits(strings.Repeat("\xff", k), n); len(l) != 0 || r != "" || e != api.ErrMore {
				t.Errorf("%d bits of %d bytes: %v %q %d", n, k, l, r, e)
			}
		}
		if l, r, e := num.TakeBits(strings.Repeat("\x00", need), n); len(l) != n || r != "" || e != api.OK {
			t.Errorf("%d bits of %d bytes: %v %q %d", n, need, l, r, e)
		}
	}
}

func TestTakeBitsNotUsed(t *testing.T) {
	for n := range 65 {
		used := num.Bits(slices.Repeat([]bool{true}, n))
		for k := n; k < 8*len(used); k++ {
			b := []byte(used)
			b[k/8] |= 1 << (k % 8)
			if l, r, e := num.TakeBits(string(b)+"z", n); len(l) != 0 || r != "" || e != api.ErrForm {
				t.Errorf("%d bits, bit %d: %v %q %d", n, k, l, r, e)
			}
		}
	}
}

func TestTakeBitsAnswersAreApart(t *testing.T) {
	a, _, _ := num.TakeBits("\x05", 3)
	b, _, _ := num.TakeBits("\x05", 3)
	a[0] = false
	if !b[0] {
		t.Error("two answers share memory")
	}
}

func TestSkip(t *testing.T) {
	for _, x := range []struct {
		s, first, rest string
		n              uint64
		e              api.Errno
	}{
		{"hello", "", "hello", 0, api.OK},
		{"hello", "he", "llo", 2, api.OK},
		{"hello", "hell", "o", 4, api.OK},
		{"hello", "hello", "", 5, api.OK},
		{"\x00\xff\xce", "\x00\xff", "\xce", 2, api.OK},
		{"", "", "", 0, api.OK},
		{"", "", "", 1, api.ErrMore},
		{"hello", "", "", 6, api.ErrMore},
		{"hello", "", "", 1 << 32, api.ErrMore},
		{"hello", "", "", 1<<32 + 2, api.ErrMore},
		{"hello", "", "", math.MaxInt64, api.ErrMore},
		{"hello", "", "", 1 << 63, api.ErrMore},
		{"hello", "", "", 1<<63 + 2, api.ErrMore},
		{"hello", "", "", math.MaxUint64, api.ErrMore},
	} {
		if a, b, e := num.Skip(x.s, x.n); a != x.first || b != x.rest || e != x.e {
			t.Errorf("Skip(%q, %d): %q %q %d", x.s, x.n, a, b, e)
		}
	}
}

// P1.3

func TestNumbersPutAreTaken(t *testing.T) {
	for _, n := range widths {
		for _, v := range numbers(n) {
			s, e := num.Put(n, v)
			if len(s) != n || e != api.OK {
				t.Fatalf("Put(%d, %d): %q %d", n, v, s, e)
			}
			for _, z := range tails {
				if w, r, e := num.Take(s+z, n); w != v || r != z || e != api.OK {
					t.Errorf("Take(%q, %d): %d %q %d", s+z, n, w, r, e)
				}
			}
		}
	}
}

func TestNumbersTakenArePut(t *testing.T) {
	for _, s := range []string{"\x00\x00\x00\x00\x00\x00\x00\x00", "\x01\x02\x03\x04\x05\x06\x07\x08", "\x80\x7f\x00\xce\xff\x01\x10\xfe", "\xff\xff\xff\xff\xff\xff\xff\xff"} {
		for _, n := range widths {
			v, r, e := num.Take(s, n)
			if e != api.OK {
				t.Fatalf("Take(%q, %d): %d", s, n, e)
			}
			if b, e := num.Put(n, v); b+r != s || e != api.OK {
				t.Errorf("Put(%d, %d): %q %d, of %q", n, v, b, e, s)
			}
		}
	}
}

func TestBitsLaidAreTaken(t *testing.T) {
	for n := range 65 {
		for seed := range uint64(20) {
			l := pattern(n, seed)
			s := num.Bits(l)
			for _, z := range tails {
				if m, r, e := num.TakeBits(s+z, n); !slices.Equal(m, l) || r != z || e != api.OK {
					t.Errorf("%d bits %v: %v %q %d", n, l, m, r, e)
				}
			}
		}
	}
}

func TestBitsTakenAreLaid(t *testing.T) {
	for a := range 256 {
		for b := range 256 {
			s := string([]byte{byte(a), byte(b)})
			for n := range 17 {
				l, r, e := num.TakeBits(s, n)
				if e == api.OK && num.Bits(l)+r != s {
					t.Fatalf("%d bits of %q: %v %q", n, s, l, r)
				}
			}
		}
	}
}

func TestSkippedTogetherAreTheWhole(t *testing.T) {
	s := "\x00a\xffbc\xce"
	for n := range len(s) + 1 {
		if a, b, e := num.Skip(s, uint64(n)); len(a) != n || a+b != s || e != api.OK {
			t.Errorf("Skip(%q, %d): %q %q %d", s, n, a, b, e)
		}
	}
}
