package table_test

import (
	"math/rand"
	"slices"
	"strings"
	"testing"

	"interchange/api"
	"interchange/table"
)

var tails = []string{"", "z", "\x00", "V", "\x00V", "\xff\xff\xff\xff\xff", "\x00\x00\x00\x00"}

// long are four bytes of s's length, and s.
func long(s string) string {
	n := len(s)
	return string([]byte{byte(n >> 24), byte(n >> 16), byte(n >> 8), byte(n)}) + s
}

// fieldOf are the bytes of a field.
func fieldOf(key, value string) string { return string([]byte{byte(len(key))}) + key + value }

// tableOf are the bytes of a table, of keys and values by turns.
func tableOf(l ...string) string {
	var b strings.Builder
	for i := 0; i < len(l); i += 2 {
		b.WriteString(fieldOf(l[i], l[i+1]))
	}
	return long(b.String())
}

// rowOf is a row of values, with its kind.
func rowOf(l ...string) string { return "A" + long(strings.Join(l, "")) }

// plain are values of every kind that has no others within it.
func plain() []string {
	return []string{
		"t\x01", "t\x00", "b\xff", "B\x07",
		"s\x01\x02", "u\xff\xff",
		"I\x00\x00\x00\x01", "i\xff\xff\xff\xff", "fABCD",
		"l12345678", "d\x00\x00\x00\x00\x00\x00\x00\x00", "TVVVVVVVV",
		"D\x02\x00\x00\x01\x00",
		"S\x00\x00\x00\x00", "S\x00\x00\x00\x02hi", "x\x00\x00\x00\x03\x00\xff\xce", "S" + long(strings.Repeat("q", 300)),
		"V",
	}
}

// nested are n rows or tables (as kind tells by their number), one within the other, around v.
func nested(n int, v string, isRow func(int) bool) string {
	for i := range n {
		if isRow(i) {
			v = rowOf(v)
		} else {
			v = "F" + tableOf("k", v)
		}
	}
	return v
}

// ways are how rows and tables come within each other.
func ways() []func(int) bool {
	return []func(int) bool{
		func(int) bool { return false },
		func(int) bool { return true },
		func(i int) bool { return i%2 == 0 },
		func(i int) bool { return i%3 == 0 },
		func(i int) bool { return i > 16 },
	}
}

func wantValue(t *testing.T, s, value, rest string, want api.Errno) {
	t.Helper()
	if v, r, e := table.Value(s); v != value || r != rest || e != want {
		t.Errorf("Value(%.80q): %.80q %.80q %d, not %.80q %.80q %d", s, v, r, e, value, rest, want)
	}
}

func wantTake(t *testing.T, s, taken, rest string, want api.Errno) {
	t.Helper()
	if v, r, e := table.Take(s); v != taken || r != rest || e != want {
		t.Errorf("Take(%.80q): %.80q %.80q %d, not %.80q %.80q %d", s, v, r, e, taken, rest, want)
	}
}

// P3.1

func TestValueOfEachKind(t *testing.T) {
	l := plain()
	l = append(l, rowOf(), rowOf("V", "b\x07"), rowOf(l...), rowOf(rowOf(), rowOf(rowOf("V"), "V")),
		"F"+tableOf(), "F"+tableOf("a", "t\x01", "", "V", "a", "t\x00"), rowOf("F"+tableOf("x", rowOf(l...))))
	for _, v := range l {
		for _, z := range tails {
			wantValue(t, v+z, v, z, api.OK)
		}
		for n := range min(len(v), 2000) {
			wantValue(t, v[:n], "", "", api.ErrMore)
		}
		wantValue(t, v[:len(v)-1], "", "", api.ErrMore)
	}
}

func TestKindsThatAreNone(t *testing.T) {
	const kinds = "tbBsuIiflDdTSxVAF"
	for c := range 256 {
		k := string([]byte{byte(c)})
		want := api.ErrForm
		if strings.Contains(kinds, k) {
			want = api.OK
		}
		for _, behind := range []string{"\x00\x00\x00\x00\x00\x00\x00\x00\x00", ""} {
			_, _, e := table.Value(k + behind)
			if behind == "" && want == api.OK && k != "V" {
				want = api.ErrMore
			}
			if e != want {
				t.Errorf("Value of the kind %q, %d bytes behind: %d, not %d", k, len(behind), e, want)
			}
		}
	}
}

func TestTake(t *testing.T) {
	for _, s := range []string{
		tableOf(),
		tableOf("a", "t\x01"),
		tableOf("", "V"),
		tableOf("a", "V", "a", "V", "b", "S\x00\x00\x00\x02hi"),
		tableOf(strings.Repeat("k", 255), "l12345678"),
		tableOf("row", rowOf(plain()...), "in", "F"+tableOf("in", "F"+tableOf("x", rowOf("V", "b\x07")))),
	} {
		for _, z := range tails {
			wantTake(t, s+z, s, z, api.OK)
		}
		for n := range min(len(s), 2000) {
			wantTake(t, s[:n], "", "", api.ErrMore)
		}
		wantTake(t, s[:len(s)-1], "", "", api.ErrMore)
	}
	if s := tableOf("a", "t\x01"); s != "\x00\x00\x00\x04\x01at\x01" {
		t.Errorf("%q", s)
	}
}

func TestBytesMissingAtTheEnd(t *testing.T) {
	for _, s := range []string{"", "\x00", "\x00\x00\x00", "\x00\x00\x00\x01", "\x00\x00\x00\x02\x00", "\xff\xff\xff\xff", "\x80\x00\x00\x00\x00V", "\x00\x00\x00\x04\x00z\x01", "\x00\x00\x00\x09\xff\xff"} {
		wantTake(t, s, "", "", api.ErrMore)
		wantValue(t, "F"+s, "", "", api.ErrMore)
		wantValue(t, "A"+s, "", "", api.ErrMore)
		wantValue(t, "S"+s, "", "", api.ErrMore)
		wantValue(t, "x"+s, "", "", api.ErrMore)
	}
}

func TestBytesMissingWithinALength(t *testing.T) {
	l := plain()
	l = append(l, rowOf("V", "b\x07"), "F"+tableOf("a", "t\x01"))
	for _, v := range l {
		if v == "V" {
			continue
		}
		for _, n := range []int{0, 1, 2, len(v) / 2, len(v) - 1} {
			short := v[:min(n, len(v)-1)]
			for _, z := range []string{"", "zzzzzzzzzz"} { // what stands behind the length is none of its own
				wantTake(t, long(fieldOf("a", short))+z, "", "", api.ErrForm)
				wantTake(t, long(fieldOf("b", "V")+fieldOf("a", short))+z, "", "", api.ErrForm)
				wantValue(t, "F"+long(fieldOf("a", short))+z, "", "", api.ErrForm)
				if short != "" {
					wantValue(t, rowOf(short)+z, "", "", api.ErrForm)
					wantValue(t, rowOf("V", short)+z, "", "", api.ErrForm)
					wantValue(t, rowOf("F"+tableOf("k", rowOf(short)))+z, "", "", api.ErrForm)
				}
			}
		}
	}
	for _, fields := range []string{"\x00", "\x01", "\x01a", "\x02a", "\x05", "\xff" + strings.Repeat("k", 254), "\x00V\x00", "\x00t", "\x01aS\x00\x00\x00", "\x01aS\x00\x00\x00\x01"} {
		for _, z := range []string{"", "VVVVVVVV"} {
			wantTake(t, long(fields)+z, "", "", api.ErrForm)
			wantValue(t, "F"+long(fields)+z, "", "", api.ErrForm)
			wantTake(t, tableOf("in", "F"+long(fields))+z, "", "", api.ErrForm)
		}
	}
}

func TestRowsAndTablesAreTheirOwn(t *testing.T) {
	wantValue(t, "A"+long(fieldOf("k", "V")), "", "", api.ErrForm)
	wantTake(t, long("VV"), "", "", api.ErrForm)
	wantValue(t, rowOf("z"), "", "", api.ErrForm)
	wantValue(t, rowOf("V", "z", "V"), "", "", api.ErrForm)
	wantTake(t, tableOf("a", "z\x01"), "", "", api.ErrForm)
	wantTake(t, tableOf("a", "V", "b", "\x00"), "", "", api.ErrForm)
}

func TestDepthOfValues(t *testing.T) {
	for _, way := range ways() {
		for _, v := range plain() {
			deepest := nested(32, v, way)
			wantValue(t, deepest, deepest, "", api.OK)
			wantValue(t, deepest+"zz", deepest, "zz", api.OK)
			wantTake(t, tableOf("k", nested(31, v, way))+"z", tableOf("k", nested(31, v, way)), "z", api.OK)
			wantTake(t, tableOf("k", deepest), "", "", api.ErrDeep)
			for _, n := range []int{33, 34, 60} {
				wantValue(t, nested(n, v, way), "", "", api.ErrDeep)
			}
		}
		for _, empty := range []string{rowOf(), "F" + tableOf()} {
			wantValue(t, nested(31, empty, way), nested(31, empty, way), "", api.OK)
			wantValue(t, nested(32, empty, way), "", "", api.ErrDeep)
			wantTake(t, tableOf("k", nested(30, empty, way)), tableOf("k", nested(30, empty, way)), "", api.OK)
			wantTake(t, tableOf("k", nested(31, empty, way)), "", "", api.ErrDeep)
		}
	}
}

func TestManyBesideEachOtherAreNotDeep(t *testing.T) {
	var l []string
	for range 200 {
		l = append(l, rowOf(rowOf("V")), "F"+tableOf("a", "V"))
	}
	wantValue(t, rowOf(l...), rowOf(l...), "", api.OK)
}

func TestTheFirstErrorIsTold(t *testing.T) {
	for _, x := range []struct {
		of string
		v  string
		e  api.Errno
	}{
		{"a kind that is none ahead of too deep", rowOf("z", nested(33, "V", ways()[0])), api.ErrForm},
		{"too deep ahead of a kind that is none", rowOf(nested(33, "V", ways()[0]), "z"), api.ErrDeep},
		{"too deep ahead of bytes that are missing within", rowOf(nested(32, "V", ways()[1]), "l1"), api.ErrDeep},
		{"bytes that are missing within, ahead of too deep", "A" + long("F"+long("\x01kl1")+nested(33, "V", ways()[1])), api.ErrForm},
		{"too deep, ahead of what it has", nested(32, "A"+long("z"), ways()[0]), api.ErrDeep},
		{"too deep, ahead of what a table has", nested(32, "F"+long("\x09"), ways()[1]), api.ErrDeep},
		{"its own missing bytes, ahead of too deep", nested(32, "A\x00\x00\x00\x01", ways()[0]), api.ErrForm},
		{"its own missing length, ahead of too deep", nested(32, "F\x00\x00\x00", ways()[1]), api.ErrForm},
		{"bytes missing of the whole, ahead of a kind that is none", "A\x00\x00\x00\x03zz", api.ErrMore},
		{"bytes missing of the whole, ahead of too deep", "A\x00\x01\x00\x00" + nested(40, "V", ways()[0]), api.ErrMore},
		{"a kind that is none, ahead of bytes that are missing behind it", rowOf("z", "l1"), api.ErrForm},
	} {
		if v, r, e := table.Value(x.v); v != "" || r != "" || e != x.e {
			t.Errorf("%s: %q %q %d", x.of, v, r, e)
		}
	}
}

// P3.2

func TestKeys(t *testing.T) {
	for _, x := range []struct {
		t string
		l []string
	}{
		{tableOf(), nil},
		{tableOf("a", "t\x01"), []string{"a"}},
		{tableOf("b", "V", "a", "V", "b", "t\x01", "", "V"), []string{"b", "a", "b", ""}},
		{tableOf("out", "F"+tableOf("in", "V"), "row", rowOf("F"+tableOf("in2", "V")), "z", "V"), []string{"out", "row", "z"}},
		{tableOf(strings.Repeat("k", 255), "V", "\x00\xff", "V"), []string{strings.Repeat("k", 255), "\x00\xff"}},
	} {
		if l, e := table.Keys(x.t); !slices.Equal(l, x.l) || e != api.OK {
			t.Errorf("Keys(%.80q): %q %d", x.t, l, e)
		}
	}
}

// wrong are texts that are no tables, and why.
func wrong() map[string]api.Errno {
	tooDeep := nested(32, "V", ways()[2])
	return map[string]api.Errno{
		"":                               api.ErrMore,
		"\x00\x00\x00":                   api.ErrMore,
		"\x00\x00\x00\x05\x01at\x01":     api.ErrMore,
		"\x00\x00\x00\x03\x01at\x01":     api.ErrForm,
		tableOf("a", "t\x01") + "z":      api.ErrForm,
		tableOf() + "\x00":               api.ErrForm,
		tableOf("a", "V") + tableOf():    api.ErrForm,
		tableOf("a", "V", "b", "z"):      api.ErrForm,
		tableOf("a", "V", "b", "l1"):     api.ErrForm,
		long(fieldOf("a", "V") + "\x07"): api.ErrForm,
		tableOf("k", tooDeep):            api.ErrDeep,
		tableOf("k", tooDeep) + "z":      api.ErrDeep,
		tableOf("a", "V", "d", tooDeep):  api.ErrDeep,
		tableOf("d", tooDeep, "b", "l1"): api.ErrDeep,
		tableOf("b", "z", "d", tooDeep):  api.ErrForm,
	}
}

func TestKeysOfWhatIsNoTable(t *testing.T) {
	for s, want := range wrong() {
		if l, e := table.Keys(s); len(l) != 0 || e != want {
			t.Errorf("Keys(%.80q): %q %d, not %d", s, l, e, want)
		}
		if d, e := table.Deep(s); d != 0 || e != want {
			t.Errorf("Deep(%.80q): %d %d, not %d", s, d, e, want)
		}
	}
}

func TestKeysAnswersAreApart(t *testing.T) {
	s := tableOf("a", "V", "b", "V")
	a, _ := table.Keys(s)
	b, _ := table.Keys(s)
	a[0] = "x"
	if b[0] != "a" {
		t.Error("two answers share memory")
	}
}

func TestFind(t *testing.T) {
	s := tableOf("a", "S\x00\x00\x00\x02hi", "b", "F"+tableOf("in", "V"), "a", "V", "", rowOf("V", "V"), "v", "V", "A", "t\x01")
	for _, x := range []struct {
		key, v string
		is     bool
	}{
		{"a", "S\x00\x00\x00\x02hi", true},
		{"b", "F" + tableOf("in", "V"), true},
		{"", rowOf("V", "V"), true},
		{"v", "V", true},
		{"A", "t\x01", true},
		{"in", "", false},
		{"c", "", false},
		{"aa", "", false},
		{"hi", "", false},
		{"a\x00", "", false},
		{strings.Repeat("a", 256), "", false},
	} {
		if v, is := table.Find(s, x.key); v != x.v || is != x.is {
			t.Errorf("Find(%q): %q %v", x.key, v, is)
		}
	}
	if v, is := table.Find(tableOf(), ""); v != "" || is {
		t.Errorf("Find of nothing: %q %v", v, is)
	}
}

func TestFindInWhatIsNoTable(t *testing.T) {
	for s := range wrong() {
		for _, key := range []string{"a", "b", "k", "", "d"} {
			if v, is := table.Find(s, key); v != "" || is {
				t.Errorf("Find(%.80q, %q): %q %v", s, key, v, is)
			}
		}
	}
}

func TestDeep(t *testing.T) {
	for _, x := range []struct {
		t string
		d int
	}{
		{tableOf(), 1},
		{tableOf("a", "V", "b", "S\x00\x00\x00\x05A\x00\x00\x00\x00"), 1},
		{tableOf("a", rowOf()), 2},
		{tableOf("a", "F"+tableOf()), 2},
		{tableOf("a", rowOf("V", rowOf("V"), "V"), "b", "V"), 3},
		{tableOf("a", rowOf("F"+tableOf("x", rowOf())), "b", rowOf()), 4},
		{tableOf("b", rowOf(), "a", rowOf("F"+tableOf("x", rowOf()))), 4},
		{tableOf("b", rowOf(rowOf(rowOf()), rowOf(), "V"), "c", "V"), 4},
		{tableOf("a", rowOf(), "b", rowOf(), "c", "F"+tableOf()), 2},
	} {
		if d, e := table.Deep(x.t); d != x.d || e != api.OK {
			t.Errorf("Deep(%.80q): %d %d, not %d", x.t, d, e, x.d)
		}
	}
	for _, way := range ways() {
		for n := range 32 {
			if d, e := table.Deep(tableOf("k", nested(n, "V", way))); d != n+1 || e != api.OK {
				t.Errorf("Deep of %d within: %d %d", n, d, e)
			}
		}
	}
}

func TestMake(t *testing.T) {
	for _, x := range []struct {
		keys, values []string
		t            string
	}{
		{nil, nil, "\x00\x00\x00\x00"},
		{[]string{}, nil, "\x00\x00\x00\x00"},
		{[]string{"a"}, []string{"t\x01"}, "\x00\x00\x00\x04\x01at\x01"},
		{[]string{""}, []string{"V"}, "\x00\x00\x00\x02\x00V"},
		{[]string{"a", "b", "a"}, []string{"V", "b\x07", "V"}, "\x00\x00\x00\x0a\x01aV\x01bb\x07\x01aV"},
		{[]string{"x"}, []string{"A\x00\x00\x00\x03Vb\x07"}, "\x00\x00\x00\x0a\x01xA\x00\x00\x00\x03Vb\x07"},
		{[]string{strings.Repeat("k", 255)}, []string{"V"}, "\x00\x00\x01\x01\xff" + strings.Repeat("k", 255) + "V"},
	} {
		if s, e := table.Make(x.keys, x.values); s != x.t || e != api.OK {
			t.Errorf("Make(%.80q, %.80q): %.80q %d", x.keys, x.values, s, e)
		}
	}
}

func TestMakeThatMayNotBe(t *testing.T) {
	key256 := strings.Repeat("k", 256)
	deep32, deep33 := nested(32, "V", ways()[3]), nested(33, "V", ways()[3])
	for _, x := range []struct {
		keys, values []string
		e            api.Errno
	}{
		{[]string{"a"}, nil, api.ErrArg},
		{nil, []string{"V"}, api.ErrArg},
		{[]string{"a", "b"}, []string{"V"}, api.ErrArg},
		{[]string{"a"}, []string{"V", "V"}, api.ErrArg},
		{[]string{key256}, []string{"z", "z"}, api.ErrArg},
		{[]string{key256}, []string{"V"}, api.ErrBig},
		{[]string{key256 + "k"}, []string{""}, api.ErrBig},
		{[]string{key256}, []string{"z"}, api.ErrBig},
		{[]string{key256}, []string{"VV"}, api.ErrBig},
		{[]string{"a", key256}, []string{"V", "V"}, api.ErrBig},
		{[]string{"a", key256}, []string{"z", "V"}, api.ErrForm},
		{[]string{"a", key256}, []string{"l1", "V"}, api.ErrMore},
		{[]string{"a", key256}, []string{"VV", "V"}, api.ErrForm},
		{[]string{"a", key256}, []string{deep33, "V"}, api.ErrDeep},
		{[]string{"a", key256}, []string{deep32, "V"}, api.ErrBig},
		{[]string{"a"}, []string{""}, api.ErrMore},
		{[]string{"a"}, []string{"l1234567"}, api.ErrMore},
		{[]string{"a"}, []string{"S\x00\x00\x00\x03hi"}, api.ErrMore},
		{[]string{"a"}, []string{"A\x00\x00\x00\x01"}, api.ErrMore},
		{[]string{"a"}, []string{"A\x00\x00\x00\x01t"}, api.ErrForm},
		{[]string{"a"}, []string{"z"}, api.ErrForm},
		{[]string{"a"}, []string{"VV"}, api.ErrForm},
		{[]string{"a"}, []string{"t\x01\x00"}, api.ErrForm},
		{[]string{"a"}, []string{"V\x01bV"}, api.ErrForm},
		{[]string{"a"}, []string{tableOf("a", "V")}, api.ErrForm},
		{[]string{"a", "b"}, []string{"l1", "z"}, api.ErrMore},
		{[]string{"a", "b"}, []string{"V", "l1"}, api.ErrMore},
		{[]string{"a", "b"}, []string{deep32, "z"}, api.ErrForm},
		{[]string{"a", "b"}, []string{deep32, ""}, api.ErrMore},
		{[]string{"a", "b"}, []string{deep33, "z"}, api.ErrDeep},
		{[]string{"a"}, []string{deep33 + "z"}, api.ErrDeep},
		{[]string{"a"}, []string{deep32 + "z"}, api.ErrForm},
		{[]string{"a"}, []string{deep32}, api.ErrDeep},
		{[]string{"a", "b", "c"}, []string{"V", deep32, "V"}, api.ErrDeep},
		{[]string{"a"}, []string{deep33}, api.ErrDeep},
	} {
		if s, e := table.Make(x.keys, x.values); s != "" || e != x.e {
			t.Errorf("Make(%.40q, %.80q): %.80q %d, not %d", x.keys, x.values, s, e, x.e)
		}
	}
}

func TestMakeOfTheDeepest(t *testing.T) {
	for _, way := range ways() {
		for _, v := range []string{nested(31, "V", way), nested(30, rowOf(), way), nested(30, "F"+tableOf(), way)} {
			s, e := table.Make([]string{"k", "l"}, []string{v, "V"})
			if s != tableOf("k", v, "l", "V") || e != api.OK {
				t.Errorf("31 within: %d bytes, %d", len(s), e)
			}
			if d, e := table.Deep(s); d != 32 || e != api.OK {
				t.Errorf("31 within: %d deep, %d", d, e)
			}
			if l, e := table.Keys(s); !slices.Equal(l, []string{"k", "l"}) || e != api.OK {
				t.Errorf("31 within: %q %d", l, e)
			}
			if found, is := table.Find(s, "k"); found != v || !is {
				t.Errorf("31 within: %d bytes found, %v", len(found), is)
			}
		}
		for _, v := range []string{nested(32, "V", way), nested(31, rowOf(), way), nested(31, "F"+tableOf(), way)} {
			if s, e := table.Make([]string{"l", "k"}, []string{"V", v}); s != "" || e != api.ErrDeep {
				t.Errorf("32 within: %d bytes, %d", len(s), e)
			}
		}
	}
}

func TestMakeLeavesWhatIsHandedIn(t *testing.T) {
	keys, values := []string{"a", "b", "c"}, []string{"V", "t\x01", "V"}
	table.Make(keys[:2], values[:2])
	if !slices.Equal(keys, []string{"a", "b", "c"}) || !slices.Equal(values, []string{"V", "t\x01", "V"}) {
		t.Errorf("%q %q", keys, values)
	}
}

// P3.3

// grow is some value, with at most room tables and rows within each other, and how deep it is.
func grow(r *rand.Rand, room int) (string, int) {
	l := plain()
	if room == 0 || r.Intn(3) > 0 {
		return l[r.Intn(len(l))], 0
	}
	deep, isRow := 0, r.Intn(2) == 0
	var body strings.Builder
	for range r.Intn(4) {
		if v, d := grow(r, room-1); isRow {
			body.WriteString(v)
			deep = max(deep, d)
		} else {
			body.WriteString(fieldOf(strings.Repeat("k", r.Intn(256)), v))
			deep = max(deep, d)
		}
	}
	if isRow {
		return "A" + long(body.String()), deep + 1
	}
	return "F" + long(body.String()), deep + 1
}

func TestWhatIsMadeIsTaken(t *testing.T) {
	r := rand.New(rand.NewSource(3))
	for range 300 {
		var keys, values []string
		deep := 0
		for range r.Intn(6) {
			v, d := grow(r, 5)
			keys = append(keys, strings.Repeat(string(rune('a'+r.Intn(3))), r.Intn(4)))
			values = append(values, v)
			deep = max(deep, d)
		}
		s, e := table.Make(keys, values)
		if e != api.OK {
			t.Fatalf("Make(%.80q): %d", keys, e)
		}
		for _, z := range tails {
			wantTake(t, s+z, s, z, api.OK)
			wantValue(t, "F"+s+z, "F"+s, z, api.OK)
		}
		if l, e := table.Keys(s); !slices.Equal(l, keys) || e != api.OK {
			t.Errorf("Keys: %q, not %q: %d", l, keys, e)
		}
		for _, k := range keys {
			if v, is := table.Find(s, k); !is || v != values[slices.Index(keys, k)] {
				t.Errorf("Find(%q): %.80q %v", k, v, is)
			}
		}
		if d, e := table.Deep(s); d != deep+1 || e != api.OK {
			t.Errorf("Deep: %d %d, not %d", d, e, deep+1)
		}
	}
}

func TestManyFields(t *testing.T) {
	var keys, values []string
	for i := range 200000 {
		keys = append(keys, string([]byte{byte(i), byte(i >> 8), byte(i >> 16)}))
		values = append(values, "I\x00\x00\x00\x01")
	}
	s, e := table.Make(keys, values)
	if e != api.OK || len(s) != 4+9*len(keys) {
		t.Fatalf("%d bytes, %d", len(s), e)
	}
	if l, e := table.Keys(s); !slices.Equal(l, keys) || e != api.OK {
		t.Errorf("%d keys, %d", len(l), e)
	}
}

// teller is the chapter told once more, by places in a text instead of rests of it.
type teller string

// missing is the error of bytes that are missing with so many tables and rows around them.
func missing(around int) api.Errno {
	if around > 0 {
		return api.ErrForm
	}
	return api.ErrMore
}

// value is where the value at a place ends, which may go up to end.
func (s teller) value(at, end, around int) (int, api.Errno) {
	if at == end {
		return 0, missing(around)
	}
	n := 0
	switch s[at] {
	case 'S', 'x':
		return s.length(at+1, end, around)
	case 'A', 'F':
		return s.nest(at+1, end, around, s[at] == 'F')
	case 't', 'b', 'B':
		n = 1
	case 's', 'u':
		n = 2
	case 'I', 'i', 'f':
		n = 4
	case 'l', 'd', 'T':
		n = 8
	case 'D':
		n = 5
	case 'V':
	default:
		return 0, api.ErrForm
	}
	if at+1+n > end {
		return 0, missing(around)
	}
	return at + 1 + n, api.OK
}

// length is where what has its length at a place ends.
func (s teller) length(at, end, around int) (int, api.Errno) {
	if at+4 > end {
		return 0, missing(around)
	}
	n := int(s[at])<<24 | int(s[at+1])<<16 | int(s[at+2])<<8 | int(s[at+3])
	if at+4+n > end {
		return 0, missing(around)
	}
	return at + 4 + n, api.OK
}

// nest is where a row, or a table, ends.
func (s teller) nest(at, end, around int, keys bool) (int, api.Errno) {
	end, e := s.length(at, end, around)
	if e != api.OK {
		return 0, e
	}
	if around == 32 {
		return 0, api.ErrDeep
	}
	for at += 4; at < end; {
		if keys {
			if at += 1 + int(s[at]); at > end {
				return 0, api.ErrForm
			}
		}
		if at, e = s.value(at, end, around+1); e != api.OK {
			return 0, e
		}
	}
	return end, api.OK
}

// scraps are bytes of which values, and what is nearly one, come about by chance.
const scraps = "AFSxVtsID\x00\x00\x00\x00\x00\x01\x02\x03\x05\x09z\xff"

// scrap are some bytes: by chance alone, or those of a value of which one byte is another.
func scrap(r *rand.Rand) string {
	if r.Intn(2) == 0 {
		b := make([]byte, r.Intn(30))
		for i := range b {
			b[i] = scraps[r.Intn(len(scraps))]
		}
		return string(b)
	}
	l := plain()
	b := []byte(nested(r.Intn(36), l[r.Intn(len(l))], ways()[r.Intn(5)]) + tails[r.Intn(len(tails))])
	b[r.Intn(len(b))] = scraps[r.Intn(len(scraps))]
	return string(b)
}

func TestBytesAsTold(t *testing.T) {
	r := rand.New(rand.NewSource(33))
	for range 50000 {
		s := scrap(r)
		n, want := teller(s).value(0, len(s), 0)
		wantValue(t, s, s[:n], rest(s, n, want), want)
		n, want = teller(s).nest(0, len(s), 0, true)
		wantTake(t, s, s[:n], rest(s, n, want), want)
	}
}

// rest is what stands behind a place, if there is no error.
func rest(s string, n int, e api.Errno) string {
	if e != api.OK {
		return ""
	}
	return s[n:]
}
