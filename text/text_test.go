package text_test

import (
	"math"
	"slices"
	"strings"
	"testing"

	"interchange/api"
	"interchange/text"
)

var tails = []string{"", "z", "\x00", "\xff\xff\xff\xff\xff", "\x02hi"}

// samples are texts of many lengths and bytes, the edges among them.
func samples() []string {
	l := []string{"", "\x00", "\xff", "hi", "a\x00b", "\u00e9\u4e16", "\xc3", "\x00\x00\x00\x02hi"}
	for _, n := range []int{1, 2, 127, 128, 254, 255, 256, 257, 511, 512, 4096, 65535, 65536, 65537} {
		l = append(l, mixed(n))
	}
	return l
}

// mixed are n bytes, in which all kinds of bytes come.
func mixed(n int) string {
	b := make([]byte, n)
	for i := range b {
		b[i] = byte(7*i + i/256)
	}
	return string(b)
}

// P2.1

func TestShort(t *testing.T) {
	for _, x := range []struct{ s, laid string }{
		{"", "\x00"},
		{"\x00", "\x01\x00"},
		{"hi", "\x02hi"},
		{"\xff\x00\xce", "\x03\xff\x00\xce"},
		{"\u00e9", "\x02\xc3\xa9"},
		{mixed(127), "\x7f" + mixed(127)},
		{mixed(128), "\x80" + mixed(128)},
		{mixed(254), "\xfe" + mixed(254)},
		{mixed(255), "\xff" + mixed(255)},
	} {
		if s, e := text.Short(x.s); s != x.laid || e != api.OK {
			t.Errorf("Short(%q): %q %d", x.s, s, e)
		}
	}
}

func TestShortTooLong(t *testing.T) {
	for _, n := range []int{256, 257, 511, 512, 65535, 65536, 1 << 20} {
		if s, e := text.Short(strings.Repeat("a", n)); s != "" || e != api.ErrBig {
			t.Errorf("Short of %d bytes: %d bytes, %d", n, len(s), e)
		}
	}
}

func TestLong(t *testing.T) {
	for _, x := range []struct{ s, laid string }{
		{"", "\x00\x00\x00\x00"},
		{"\x00", "\x00\x00\x00\x01\x00"},
		{"hi", "\x00\x00\x00\x02hi"},
		{mixed(255), "\x00\x00\x00\xff" + mixed(255)},
		{mixed(256), "\x00\x00\x01\x00" + mixed(256)},
		{mixed(65535), "\x00\x00\xff\xff" + mixed(65535)},
		{mixed(65536), "\x00\x01\x00\x00" + mixed(65536)},
		{mixed(1<<24 + 2), "\x01\x00\x00\x02" + mixed(1<<24+2)},
	} {
		if s, e := text.Long(x.s); s != x.laid || e != api.OK {
			t.Errorf("Long of %d bytes: %d bytes, %d", len(x.s), len(s), e)
		}
	}
}

func TestTakeShort(t *testing.T) {
	for _, x := range []struct{ s, text, rest string }{
		{"\x00", "", ""},
		{"\x00z", "", "z"},
		{"\x00\x00", "", "\x00"},
		{"\x02hi", "hi", ""},
		{"\x02hiz", "hi", "z"},
		{"\x01\x02hi", "\x02", "hi"},
		{"\x80" + mixed(130), mixed(128), mixed(130)[128:]},
		{"\xff" + mixed(255), mixed(255), ""},
		{"\xff" + mixed(300), mixed(255), mixed(300)[255:]},
	} {
		if a, r, e := text.TakeShort(x.s); a != x.text || r != x.rest || e != api.OK {
			t.Errorf("TakeShort(%q): %q %q %d", x.s, a, r, e)
		}
	}
}

func TestTakeShortTooFew(t *testing.T) {
	l := []string{"", "\x01", "\x03hi", "\x80" + mixed(127), "\xff" + mixed(254), "\xff"}
	for n := 1; n < 256; n++ {
		l = append(l, string([]byte{byte(n)})+mixed(n-1))
	}
	for _, s := range l {
		if a, r, e := text.TakeShort(s); a != "" || r != "" || e != api.ErrMore {
			t.Errorf("TakeShort(%q): %q %q %d", s, a, r, e)
		}
	}
}

func TestTakeLong(t *testing.T) {
	for _, x := range []struct{ s, text, rest string }{
		{"\x00\x00\x00\x00", "", ""},
		{"\x00\x00\x00\x00z", "", "z"},
		{"\x00\x00\x00\x02hi", "hi", ""},
		{"\x00\x00\x00\x02hiz", "hi", "z"},
		{"\x00\x00\x00\xff" + mixed(256), mixed(255), mixed(256)[255:]},
		{"\x00\x00\x01\x00" + mixed(256), mixed(256), ""},
		{"\x00\x01\x00\x01" + mixed(65538), mixed(65537), mixed(65538)[65537:]},
	} {
		if a, r, e := text.TakeLong(x.s); a != x.text || r != x.rest || e != api.OK {
			t.Errorf("TakeLong of %d bytes: %d bytes, %d left, %d", len(x.s), len(a), len(r), e)
		}
	}
}

func TestTakeLongTooFew(t *testing.T) {
	for _, s := range []string{
		"", "\x00", "\x00\x00", "\x00\x00\x00", "\xff\xff\xff",
		"\x00\x00\x00\x01", "\x00\x00\x00\x03hi", "\x00\x00\x01\x00" + mixed(255), "\x00\x01\x00\x00" + mixed(65535),
		"\x01\x00\x00\x02hi", "\x7f\xff\xff\xffhi", "\x80\x00\x00\x00", "\x80\x00\x00\x02hi", "\xff\xff\xff\xff", "\xff\xff\xff\xffhi",
	} {
		if a, r, e := text.TakeLong(s); a != "" || r != "" || e != api.ErrMore {
			t.Errorf("TakeLong of %d bytes: %q %q %d", len(s), a, r, e)
		}
	}
}

// P2.2

func TestNameBytes(t *testing.T) {
	const may = "abcdefghijklmnopqrstuvwxyzABCDEFGHIJKLMNOPQRSTUVWXYZ0123456789-_.:"
	for c := range 256 {
		b := string([]byte{byte(c)})
		want := strings.Contains(may, b)
		for _, s := range []string{b, b + "a", "a" + b, "a" + b + "a", strings.Repeat("a", 126) + b} {
			if is := text.Name(s); is != want {
				t.Errorf("Name(%q): %v", s, is)
			}
		}
	}
	if !text.Name(may) {
		t.Errorf("Name(%q) isn't", may)
	}
}

func TestNameLengths(t *testing.T) {
	for _, b := range []string{"a", "Z", "0", ":"} {
		for n := range 300 {
			if is := text.Name(strings.Repeat(b, n)); is != (n <= 127) {
				t.Errorf("Name of %d bytes %s: %v", n, b, is)
			}
		}
	}
}

func TestName(t *testing.T) {
	for s, want := range map[string]bool{
		"":                 true,
		"amq.direct-1_a:b": true,
		"-":                true,
		"7":                true,
		"a b":              false,
		"a/b":              false,
		"a\x00":            false,
		"\u00e9":           false,
		"\u0131":           false,
		"\uff41":           false,
		"a\xff":            false,
		"a\n":              false,
	} {
		if is := text.Name(s); is != want {
			t.Errorf("Name(%q): %v", s, is)
		}
	}
}

func TestCut(t *testing.T) {
	for _, x := range []struct {
		s string
		n int
		l []string
	}{
		{"abcde", 1, []string{"a", "b", "c", "d", "e"}},
		{"abcde", 2, []string{"ab", "cd", "e"}},
		{"abcde", 3, []string{"abc", "de"}},
		{"abcde", 4, []string{"abcd", "e"}},
		{"abcde", 5, []string{"abcde"}},
		{"abcde", 6, []string{"abcde"}},
		{"abcdef", 2, []string{"ab", "cd", "ef"}},
		{"abcdef", 3, []string{"abc", "def"}},
		{"abcde", math.MaxInt - 1, []string{"abcde"}},
		{"abcde", math.MaxInt, []string{"abcde"}},
		{"abc", 0, []string{"a", "b", "c"}},
		{"abc", -1, []string{"a", "b", "c"}},
		{"abc", -3, []string{"a", "b", "c"}},
		{"abc", math.MinInt, []string{"a", "b", "c"}},
		{"\u00e9", 1, []string{"\xc3", "\xa9"}},
		{"\x00\xff\x00", 2, []string{"\x00\xff", "\x00"}},
		{"", 1, nil},
		{"", 2, nil},
		{"", 0, nil},
		{"", -1, nil},
		{"", math.MaxInt, nil},
		{"", math.MinInt, nil},
	} {
		if l := text.Cut(x.s, x.n); !slices.Equal(l, x.l) {
			t.Errorf("Cut(%q, %d): %q", x.s, x.n, l)
		}
	}
}

func TestCutAnswersAreApart(t *testing.T) {
	a, b := text.Cut("abcd", 2), text.Cut("abcd", 2)
	a[0] = "x"
	if b[0] != "ab" {
		t.Error("two answers share memory")
	}
}

func TestPairs(t *testing.T) {
	for _, x := range []struct {
		s, name, word string
		is            bool
	}{
		{"\x00u\x00p", "u", "p", true},
		{"\x00user\x00a word", "user", "a word", true},
		{"\x00\x00", "", "", true},
		{"\x00u\x00", "u", "", true},
		{"\x00\x00p", "", "p", true},
		{"\x00\xff\u00e9\x00\x01", "\xff\u00e9", "\x01", true},
		{"\x00" + mixed(400)[1:200] + "\x00" + mixed(200)[1:], mixed(400)[1:200], mixed(200)[1:], true},
		{"", "", "", false},
		{"u", "", "", false},
		{"up", "", "", false},
		{"\x00", "", "", false},
		{"\x00u", "", "", false},
		{"\x00up", "", "", false},
		{"u\x00", "", "", false},
		{"u\x00p", "", "", false},
		{"u\x00p\x00", "", "", false},
		{"u\x00\x00p", "", "", false},
		{"a\x00u\x00p", "", "", false},
		{"\x00\x00\x00", "", "", false},
		{"\x00u\x00p\x00", "", "", false},
		{"\x00a\x00b\x00c", "", "", false},
		{"\x00\x00u\x00p", "", "", false},
		{"\x00u\x00\x00p", "", "", false},
		{"\x00u\x00p\x00q\x00r", "", "", false},
	} {
		if a, b, is := text.Pairs(x.s); a != x.name || b != x.word || is != x.is {
			t.Errorf("Pairs(%q): %q %q %v", x.s, a, b, is)
		}
	}
}

// P2.3

func TestTextsLaidAreTaken(t *testing.T) {
	for _, k := range []struct {
		name string
		lay  func(string) (string, api.Errno)
		take func(string) (string, string, api.Errno)
		most int
	}{
		{"short", text.Short, text.TakeShort, 255},
		{"long", text.Long, text.TakeLong, 1 << 30},
	} {
		for _, s := range samples() {
			if len(s) > k.most {
				continue
			}
			laid, e := k.lay(s)
			if e != api.OK {
				t.Fatalf("%s: %d bytes: %d", k.name, len(s), e)
			}
			for _, z := range tails {
				if a, r, e := k.take(laid + z); a != s || r != z || e != api.OK {
					t.Errorf("%s: %d bytes, %q behind: %d bytes, %q, %d", k.name, len(s), z, len(a), r, e)
				}
			}
		}
	}
}

func TestTextsTakenAreLaid(t *testing.T) {
	for _, s := range []string{"\x00", "\x00\x00\x00\x00", "\x03\x00\x00\x00", "\x00\x00\x00\x05hello world", "\x05hello world", "\x00\x00\x01\x00" + mixed(300), "\xff" + mixed(300)} {
		if a, r, e := text.TakeShort(s); e == api.OK {
			if laid, e := text.Short(a); laid+r != s || e != api.OK {
				t.Errorf("short: %q: %q %q %d", s, laid, r, e)
			}
		}
		if a, r, e := text.TakeLong(s); e == api.OK {
			if laid, e := text.Long(a); laid+r != s || e != api.OK {
				t.Errorf("long: %q: %q %q %d", s, laid, r, e)
			}
		}
	}
}

func TestPiecesTogetherAreTheWhole(t *testing.T) {
	for _, n := range []int{math.MinInt, -1, 0, 1, 2, 3, 7, 127, 128, 255, 256, 257, 4088, 65536, math.MaxInt} {
		size := max(n, 1)
		for _, s := range samples() {
			l := text.Cut(s, n)
			if strings.Join(l, "") != s {
				t.Errorf("%d bytes by %d: not the whole", len(s), n)
			}
			for i, p := range l {
				if last := i == len(l)-1; len(p) > size || len(p) == 0 || !last && len(p) != size {
					t.Errorf("%d bytes by %d: piece %d has %d", len(s), n, i, len(p))
				}
			}
		}
	}
}
