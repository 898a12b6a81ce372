package frame_test

import (
	"fmt"
	"math"
	"slices"
	"strings"
	"testing"

	"interchange/api"
	"interchange/frame"
)

// size are the four bytes that tell n.
func size(n int) string {
	return string([]byte{byte(n >> 24), byte(n >> 16), byte(n >> 8), byte(n)})
}

// laid are the bytes of a frame, right or not, by the document's words alone.
func laid(code, channel, n int, data, end string) string {
	return string([]byte{byte(code), byte(channel >> 8), byte(channel)}) + size(n) + data + end
}

// mixed are n bytes, in which all kinds of bytes come, ce among them.
func mixed(n int) string {
	b := make([]byte, n)
	for i := range b {
		b[i] = byte(7*i + i/256)
	}
	return string(b)
}

// rights are frames that are right: of each type, and at the edges.
func rights() []api.Frame {
	l := []api.Frame{{Type: api.FBeat}}
	for _, code := range []int{api.FMethod, api.FHead, api.FBody} {
		for _, channel := range []int{0, 1, 255, 256, 258, 65534, 65535} {
			for _, n := range []int{1, 2, 255, 256, 300} {
				l = append(l, api.Frame{Type: code, Chan: channel, Data: mixed(n)})
			}
		}
		l = append(l, api.Frame{Type: code, Chan: 7, Data: mixed(65536)}, api.Frame{Type: code, Chan: 65535, Data: mixed(131072)})
	}
	for _, code := range []int{api.FMethod, api.FHead} {
		l = append(l, api.Frame{Type: code}, api.Frame{Type: code, Chan: 65535})
	}
	return append(l,
		api.Frame{Type: api.FMethod, Chan: 1, Data: "\xce"},
		api.Frame{Type: api.FBody, Chan: 1, Data: "\xce\xce\xce"},
		api.Frame{Type: api.FBody, Chan: 1, Data: "\x00"},
		api.Frame{Type: api.FHead, Chan: 1, Data: "\x08\x00\x00\x00\x00\x00\x00\xce"},
	)
}

// wrongs are frames that aren't right.
func wrongs() []api.Frame {
	l := []api.Frame{
		{Type: api.FBody}, {Type: api.FBody, Chan: 1}, {Type: api.FBody, Chan: 65535},
		{Type: api.FBeat, Chan: 1}, {Type: api.FBeat, Chan: -1}, {Type: api.FBeat, Chan: 65535}, {Type: api.FBeat, Chan: 65536},
		{Type: api.FBeat, Data: "\x00"}, {Type: api.FBeat, Data: "\xce"}, {Type: api.FBeat, Data: mixed(300)}, {Type: api.FBeat, Chan: 1, Data: "a"},
	}
	for _, code := range []int{math.MinInt, -8, -1, 0, 4, 5, 6, 7, 9, 10, 255, 256, 257, 264, math.MaxInt} {
		l = append(l, api.Frame{Type: code}, api.Frame{Type: code, Chan: 1, Data: "a"})
	}
	for _, code := range []int{api.FMethod, api.FHead, api.FBody} {
		for _, channel := range []int{math.MinInt, -65535, -1, 65536, 65537, 1 << 32, math.MaxInt} {
			l = append(l, api.Frame{Type: code, Chan: channel, Data: "a"})
		}
		l = append(l, api.Frame{Type: code, Data: mixed(131073)}, api.Frame{Type: code, Chan: 1, Data: mixed(200000)})
	}
	return l
}

func told(f api.Frame) string {
	return fmt.Sprintf("type %d, channel %d, %d bytes", f.Type, f.Chan, len(f.Data))
}

func toldAll(l []api.Frame) string {
	var each []string
	for _, f := range l {
		each = append(each, told(f))
	}
	return strings.Join(each, "; ")
}

func shortened(s string) string { return fmt.Sprintf("%.24q of %d bytes", s, len(s)) }

// P4.1

func TestHeader(t *testing.T) {
	if s := frame.Header(); s != "AMQP\x00\x00\x09\x01" {
		t.Errorf("%q", s)
	}
}

func TestBegins(t *testing.T) {
	const h = "AMQP\x00\x00\x09\x01"
	for _, rest := range []string{"", "z", "\x00", h, "\x08\x00\x00\x00\x00\x00\x00\xce", mixed(5000)} {
		if r, e := frame.Begins(h + rest); r != rest || e != api.OK {
			t.Errorf("%s behind: %q %d", shortened(rest), r, e)
		}
	}
	for n := range len(h) {
		if r, e := frame.Begins(h[:n]); r != "" || e != api.ErrMore {
			t.Errorf("Begins(%q): %q %d", h[:n], r, e)
		}
	}
}

func TestBeginsOtherwise(t *testing.T) {
	const h = "AMQP\x00\x00\x09\x01"
	for n := range len(h) {
		for c := range 256 {
			if byte(c) == h[n] {
				continue
			}
			spoilt := h[:n] + string([]byte{byte(c)})
			for _, s := range []string{spoilt, spoilt + h[n+1:], spoilt + h[n+1:] + "rest"} {
				if r, e := frame.Begins(s); r != "" || e != api.ErrForm {
					t.Errorf("Begins(%q): %q %d", s, r, e)
				}
			}
		}
	}
	for _, s := range []string{"HTTP", "GET / HTTP/1.1", "amqp", " AMQP\x00\x00\x09\x01", "MQP\x00\x00\x09\x01", "AMQP\x01\x01\x00\x09", "\x00" + h} {
		if r, e := frame.Begins(s); r != "" || e != api.ErrForm {
			t.Errorf("Begins(%q): %q %d", s, r, e)
		}
	}
}

func TestRight(t *testing.T) {
	for _, f := range rights() {
		if !frame.Right(f) {
			t.Errorf("not right: %s", told(f))
		}
	}
	for _, f := range wrongs() {
		if frame.Right(f) {
			t.Errorf("right: %s", told(f))
		}
	}
}

func TestRightOfEachType(t *testing.T) {
	for code := -300; code <= 300; code++ {
		want := code == 1 || code == 2 || code == 3
		if is := frame.Right(api.Frame{Type: code, Chan: 1, Data: "a"}); is != want {
			t.Errorf("type %d with data: %v", code, is)
		}
		want = code == 1 || code == 2 || code == 8
		if is := frame.Right(api.Frame{Type: code}); is != want {
			t.Errorf("type %d without: %v", code, is)
		}
	}
}

func TestBytes(t *testing.T) {
	for _, x := range []struct {
		f api.Frame
		s string
	}{
		{api.Frame{Type: api.FBeat}, "\x08\x00\x00\x00\x00\x00\x00\xce"},
		{api.Frame{Type: api.FMethod}, "\x01\x00\x00\x00\x00\x00\x00\xce"},
		{api.Frame{Type: api.FMethod, Data: "\x00\x0a\x00\x33"}, "\x01\x00\x00\x00\x00\x00\x04\x00\x0a\x00\x33\xce"},
		{api.Frame{Type: api.FHead, Chan: 258, Data: "hey"}, "\x02\x01\x02\x00\x00\x00\x03hey\xce"},
		{api.Frame{Type: api.FBody, Chan: 65535, Data: "\xce"}, "\x03\xff\xff\x00\x00\x00\x01\xce\xce"},
		{api.Frame{Type: api.FBody, Chan: 1, Data: mixed(0x1234)}, "\x03\x00\x01\x00\x00\x12\x34" + mixed(0x1234) + "\xce"},
		{api.Frame{Type: api.FBody, Chan: 1, Data: mixed(131072)}, "\x03\x00\x01\x00\x02\x00\x00" + mixed(131072) + "\xce"},
	} {
		if s, e := frame.Bytes(x.f); s != x.s || e != api.OK {
			t.Errorf("%s: %s %d", told(x.f), shortened(s), e)
		}
	}
	for _, f := range rights() {
		if s, e := frame.Bytes(f); s != laid(f.Type, f.Chan, len(f.Data), f.Data, "\xce") || e != api.OK {
			t.Errorf("%s: %s %d", told(f), shortened(s), e)
		}
	}
}

func TestBytesOfWhatIsWrong(t *testing.T) {
	for _, f := range wrongs() {
		if s, e := frame.Bytes(f); s != "" || e != api.ErrArg {
			t.Errorf("%s: %s %d", told(f), shortened(s), e)
		}
	}
}

// P4.2

// refused asks of Take that it answers e, and nothing beside.
func refused(t *testing.T, s string, most int, want api.Errno) {
	t.Helper()
	if f, r, e := frame.Take(s, most); f != (api.Frame{}) || r != "" || e != want {
		t.Errorf("Take(%s, %d): %s, rest %s, %d, not %d", shortened(s), most, told(f), shortened(r), e, want)
	}
}

// taken asks of Take that it answers f and the rest.
func taken(t *testing.T, s string, most int, want api.Frame, rest string) {
	t.Helper()
	if f, r, e := frame.Take(s, most); f != want || r != rest || e != api.OK {
		t.Errorf("Take(%s, %d): %s, rest %s, %d", shortened(s), most, told(f), shortened(r), e)
	}
}

var tails = []string{"", "z", "\x00", "\xce", "\x08\x00\x00\x00\x00\x00\x00\xce", "\x04\xff\xff\xff\xff\xff\xff\xff"}

func TestTake(t *testing.T) {
	for _, f := range rights() {
		if len(f.Data) > 131072-8 {
			continue
		}
		s := laid(f.Type, f.Chan, len(f.Data), f.Data, "\xce")
		for _, rest := range tails {
			taken(t, s+rest, 131072, f, rest)
		}
	}
}

func TestTakeFirstByte(t *testing.T) {
	for c := range 256 {
		want := api.ErrFrame
		if c == 1 || c == 2 || c == 3 || c == 8 {
			want = api.ErrMore
		}
		first := string([]byte{byte(c)})
		for _, behind := range []string{"", "\x00", "\x00\x00\x00\x00\x00", "\x00\x01\x00\x00\x00\x02", "\x00\x00\x00\x00\x00\x01a"} {
			refused(t, first+behind, 4096, want)
		}
	}
	for _, c := range []string{"\x00", "\x04", "\x07", "\x09", "A", "\xce", "\xff"} {
		refused(t, c+"\x00\x01\x00\x00\x00\x01a\xce", 4096, api.ErrFrame)
		refused(t, c+"\x00\x01\xff\xff\xff\xff", 4096, api.ErrFrame)
	}
}

func TestTakeFewerThanSeven(t *testing.T) {
	refused(t, "", 4096, api.ErrMore)
	for _, code := range []int{1, 2, 3, 8} {
		// The first six already tell that it is too long, or a beat elsewhere: that counts once there are seven.
		s := laid(code, 65535, math.MaxUint32, "", "")
		for n := 1; n < 7; n++ {
			refused(t, s[:n], 4096, api.ErrMore)
		}
		refused(t, s, 4096, api.ErrFrame)
	}
}

func TestTakeCutAnywhere(t *testing.T) {
	for _, f := range []api.Frame{{Type: api.FBeat}, {Type: api.FMethod}, {Type: api.FMethod, Chan: 258, Data: "hey"}, {Type: api.FHead, Chan: 1, Data: mixed(300)}, {Type: api.FBody, Chan: 65535, Data: "\xce\xce"}} {
		s := laid(f.Type, f.Chan, len(f.Data), f.Data, "\xce")
		for n := range len(s) {
			refused(t, s[:n], 4096, api.ErrMore)
		}
		taken(t, s, 4096, f, "")
	}
}

func TestTakeMost(t *testing.T) {
	for _, x := range []struct{ most, counts int }{
		{math.MinInt, 4096}, {-1, 4096}, {0, 4096}, {1, 4096}, {7, 4096}, {8, 4096}, {4095, 4096}, {4096, 4096},
		{4097, 4097}, {5000, 5000}, {65536, 65536}, {131071, 131071},
		{131072, 131072}, {131073, 131072}, {131080, 131072}, {1 << 32, 131072}, {1<<32 + 5000, 131072}, {math.MaxInt - 7, 131072}, {math.MaxInt, 131072},
	} {
		n := x.counts - 8
		for _, code := range []int{1, 2, 3} {
			f := api.Frame{Type: code, Chan: 9, Data: mixed(n)}
			taken(t, laid(code, 9, n, f.Data, "\xce")+"z", x.most, f, "z")
			refused(t, laid(code, 9, n, "", ""), x.most, api.ErrMore)
			refused(t, laid(code, 9, n, f.Data, ""), x.most, api.ErrMore)
			refused(t, laid(code, 9, n+1, "", ""), x.most, api.ErrFrame)
			refused(t, laid(code, 9, n+1, mixed(n+1), ""), x.most, api.ErrFrame)
			refused(t, laid(code, 9, n+1, mixed(n+1), "\xce"), x.most, api.ErrFrame)
		}
	}
}

func TestTakeGreatestSizes(t *testing.T) {
	for _, n := range []int{131072 - 7, 131072, 131073, 1 << 24, math.MaxInt32 - 8, math.MaxInt32, 1 << 31, math.MaxUint32 - 8, math.MaxUint32 - 7, math.MaxUint32} {
		refused(t, laid(1, 0, n, "", ""), math.MaxInt, api.ErrFrame)
		refused(t, laid(1, 0, n, "hey", "\xce"), 4096, api.ErrFrame)
	}
}

func TestTakeLastByte(t *testing.T) {
	for c := range 256 {
		end := string([]byte{byte(c)})
		for _, f := range []api.Frame{{Type: api.FBeat}, {Type: api.FMethod, Chan: 258, Data: "hey"}, {Type: api.FBody, Chan: 1, Data: "\xce"}} {
			s := laid(f.Type, f.Chan, len(f.Data), f.Data, end)
			if c == 0xce {
				taken(t, s+"\xce", 4096, f, "\xce")
				continue
			}
			refused(t, s, 4096, api.ErrFrame)
			refused(t, s+"\xce", 4096, api.ErrFrame)
		}
	}
}

func TestTakeWhatIsWrong(t *testing.T) {
	for _, f := range []api.Frame{
		{Type: api.FBeat, Chan: 1}, {Type: api.FBeat, Chan: 256}, {Type: api.FBeat, Chan: 65535},
		{Type: api.FBeat, Data: "\x00"}, {Type: api.FBeat, Data: mixed(4088)}, {Type: api.FBeat, Chan: 1, Data: "a"},
		{Type: api.FBody}, {Type: api.FBody, Chan: 1}, {Type: api.FBody, Chan: 65535},
	} {
		s := laid(f.Type, f.Chan, len(f.Data), f.Data, "\xce")
		for _, rest := range tails {
			refused(t, s+rest, 4096, api.ErrFrame)
		}
		// It is wrong only once it is there whole.
		for n := 1; n < len(s); n++ {
			refused(t, s[:n], 4096, api.ErrMore)
		}
	}
}

// joined are the bytes of frames, one behind the other.
func joined(t *testing.T, l []api.Frame) string {
	t.Helper()
	var b strings.Builder
	for _, f := range l {
		s, e := frame.Bytes(f)
		if e != api.OK {
			t.Fatalf("%s: %d", told(f), e)
		}
		b.WriteString(s)
	}
	return b.String()
}

var several = []api.Frame{
	{Type: api.FMethod, Chan: 1, Data: "\x00\x3c\x00\x28"},
	{Type: api.FBeat},
	{Type: api.FHead, Chan: 1, Data: "\x00\x3c\xce\x00"},
	{Type: api.FMethod, Chan: 65535},
	{Type: api.FBody, Chan: 1, Data: "\xce"},
	{Type: api.FBody, Chan: 2, Data: "\x08\x00\x00\x00\x00\x00\x00\xce"},
	{Type: api.FBeat},
	{Type: api.FHead},
}

func TestSplit(t *testing.T) {
	for n := range len(several) + 1 {
		s := joined(t, several[:n])
		for _, rest := range []string{"", "\x01", "\x08\x00\x00\x00\x00\x00", "\x08\x00\x00\x00\x00\x00\x00", "\x03\x00\x01\x00\x00\x00\x02a\xce", "\x02\x00\x01\x00\x00\x0f\xf8" + mixed(4088)} {
			if l, r, e := frame.Split(s+rest, 4096); !slices.Equal(l, several[:n]) || r != rest || e != api.OK {
				t.Errorf("%d frames, %s behind: %s, rest %s, %d", n, shortened(rest), toldAll(l), shortened(r), e)
			}
		}
	}
}

func TestSplitWhatIsWrong(t *testing.T) {
	for n := range len(several) + 1 {
		s := joined(t, several[:n])
		for _, bad := range []string{"\x00", "\x04", "A", "\xce", "\x01\x00\x00\xff\xff\xff\xff", "\x02\x00\x01\x00\x00\x0f\xf9", "\x01\x00\x00\x00\x00\x00\x00\xcf", "\x08\x00\x01\x00\x00\x00\x00\xce", "\x08\x00\x00\x00\x00\x00\x01a\xce", "\x03\x00\x01\x00\x00\x00\x00\xce"} {
			for _, behind := range []string{"", "\x08\x00\x00\x00\x00\x00\x00\xce"} {
				if l, r, e := frame.Split(s+bad+behind, 4096); !slices.Equal(l, several[:n]) || r != "" || e != api.ErrFrame {
					t.Errorf("%d frames, %q: %s, rest %q, %d", n, bad+behind, toldAll(l), r, e)
				}
			}
		}
	}
}

func TestSplitMost(t *testing.T) {
	for _, x := range []struct {
		most, n int
		e       api.Errno
	}{
		{math.MinInt, 4096, api.OK}, {0, 4096, api.OK}, {0, 4097, api.ErrFrame}, {4095, 4096, api.OK}, {4095, 4097, api.ErrFrame},
		{5000, 5000, api.OK}, {5000, 5001, api.ErrFrame},
		{131072, 131072, api.OK}, {131072, 131073, api.ErrFrame}, {131080, 131073, api.ErrFrame}, {math.MaxInt, 131072, api.OK}, {math.MaxInt, 131073, api.ErrFrame},
	} {
		beat := api.Frame{Type: api.FBeat}
		great := api.Frame{Type: api.FBody, Chan: 1, Data: mixed(x.n - 8)}
		want, rest := []api.Frame{beat, great, beat}, "\x01\x00"
		if x.e != api.OK {
			want, rest = want[:1], ""
		}
		l, r, e := frame.Split(joined(t, []api.Frame{beat, great, beat})+"\x01\x00", x.most)
		if !slices.Equal(l, want) || r != rest || e != x.e {
			t.Errorf("%d bytes of at most %d: %d frames, rest %q, %d", x.n, x.most, len(l), r, e)
		}
	}
}

func TestSplitAnswersAreApart(t *testing.T) {
	s := joined(t, several)
	a, _, _ := frame.Split(s, 4096)
	b, _, _ := frame.Split(s, 4096)
	a[0].Data, a[1].Chan = "x", 7
	_ = append(a[:2], api.Frame{Type: 3})
	if !slices.Equal(b, several) {
		t.Error("two answers share memory")
	}
}

// P4.3

func TestFramesCutInTwo(t *testing.T) {
	s := joined(t, several)
	for n := range len(s) + 1 {
		one, rest, e := frame.Split(s[:n], 4096)
		if e != api.OK {
			t.Fatalf("cut at %d: %d", n, e)
		}
		if joined(t, one)+rest != s[:n] {
			t.Errorf("cut at %d: %s, rest %q", n, toldAll(one), rest)
		}
		two, rest, e := frame.Split(rest+s[n:], 4096)
		if all := slices.Concat(one, two); !slices.Equal(all, several) || rest != "" || e != api.OK {
			t.Errorf("cut at %d: %s, rest %q, %d", n, toldAll(all), rest, e)
		}
	}
}

func TestFramesCutIntoPieces(t *testing.T) {
	l := append(slices.Clone(several), api.Frame{Type: api.FBody, Chan: 3, Data: mixed(4088)}, api.Frame{Type: api.FBeat}, api.Frame{Type: api.FBody, Chan: 3, Data: mixed(912)})
	s := joined(t, l)
	for _, n := range []int{1, 2, 3, 5, 7, 8, 9, 64, 1000, 4096, 5000, len(s)} {
		var all []api.Frame
		rest := ""
		for piece := range slices.Chunk([]byte(s), n) {
			some, left, e := frame.Split(rest+string(piece), 4096)
			if e != api.OK {
				t.Fatalf("pieces of %d: %d", n, e)
			}
			all, rest = append(all, some...), left
		}
		if !slices.Equal(all, l) || rest != "" {
			t.Errorf("pieces of %d: %d frames, rest %q", n, len(all), rest)
		}
	}
}

func TestWhatIsWrongCutInTwo(t *testing.T) {
	for _, bad := range []string{"\x04", "\x02\x00\x01\x00\x00\x0f\xf9", "\x01\x00\x01\x00\x00\x00\x03hey\xcf", "\x08\x00\x01\x00\x00\x00\x00\xce", "\x03\x00\x01\x00\x00\x00\x00\xce"} {
		s := joined(t, several) + bad
		for n := range len(s) {
			one, rest, e := frame.Split(s[:n], 4096)
			if e != api.OK {
				t.Fatalf("%q, cut at %d: %d", bad, n, e)
			}
			two, rest, e := frame.Split(rest+s[n:], 4096)
			if all := slices.Concat(one, two); !slices.Equal(all, several) || rest != "" || e != api.ErrFrame {
				t.Errorf("%q, cut at %d: %s, rest %q, %d", bad, n, toldAll(all), rest, e)
			}
		}
	}
}
