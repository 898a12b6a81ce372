package sig_test

import (
	"fmt"
	"math"
	"slices"
	"strconv"
	"strings"
	"testing"

	"interchange/api"
	"interchange/sig"
)

// chapter are the lines of the chapter's table, as they stand there.
var chapter = []struct {
	class int
	line  string
}{
	{10, "10: ooTLL S 11; 11: TSLS C; 20: L S 21; 21: L C; 30: sls S 31; 31: sls C; 40: SSb C 41; 41: S S; 50: sSss B 51; 51: - B; 60: S S; 61: - S"},
	{20, "10: S C 11; 11: L S; 20: b B 21; 21: b B; 40: sSss B 41; 41: - B"},
	{40, "10: sSSbbbbbT C 11; 11: - S; 20: sSbb C 21; 21: - S"},
	{50, "10: sSbbbbbT C 11; 11: Sll S; 20: sSSSbT C 21; 21: - S; 30: sSb C 31; 31: l S; 40: sSbbb C 41; 41: l S; 50: sSSST C 51; 51: - S"},
	{60, "10: lsb C 11; 11: - S; 20: sSSbbbbT C 21; 21: S S; 30: Sb C 31; 31: S S; 40: sSSbb C; 50: sSSS S; 60: SqbSS S; 70: sSb C 71 72; 71: qbSSl S; 72: S S; 80: qb B; 90: qb C; 100: b C; 110: b C 111; 111: - S; 120: qbb B"},
	{85, "10: b C 11; 11: - S"},
	{90, "10: - C 11; 11: - S; 20: - C 21; 21: - S; 30: - C 31; 31: - S"},
}

// want is what the chapter says of a method.
type want struct {
	values  string
	side    int
	replies []int
	asks    int
	content bool
}

func number(t *testing.T, s string) int {
	t.Helper()
	n, err := strconv.Atoi(s)
	if err != nil {
		t.Fatal(err)
	}
	return n
}

// wants are what the chapter says of each method, and where they stand, in the chapter's order.
func wants(t *testing.T) (map[[2]int]want, [][2]int) {
	t.Helper()
	values := func(s string) string {
		if s == "-" {
			return ""
		}
		return s
	}
	sides := map[string]int{"C": 1, "S": 2, "B": 3}
	all := map[[2]int]want{}
	var order [][2]int
	asks := map[[2]int]int{}
	for _, c := range chapter {
		for _, one := range strings.Split(c.line, "; ") {
			words := strings.Fields(one)
			at := [2]int{c.class, number(t, strings.TrimSuffix(words[0], ":"))}
			w := want{values: values(words[1]), side: sides[words[2]]}
			for _, r := range words[3:] {
				w.replies = append(w.replies, number(t, r))
				asks[[2]int{c.class, number(t, r)}] = at[1]
			}
			all[at] = w
			order = append(order, at)
		}
	}
	for at, id := range asks {
		w := all[at]
		w.asks = id
		all[at] = w
	}
	for _, id := range []int{40, 50, 60, 71} {
		w := all[[2]int{60, id}]
		w.content = true
		all[[2]int{60, id}] = w
	}
	return all, order
}

// check holds all calls against w; a method that isn't there is the zero of want.
func check(t *testing.T, at [2]int, w want, is bool) {
	t.Helper()
	class, id := at[0], at[1]
	if s, there := sig.Of(class, id); s != w.values || there != is {
		t.Errorf("Of(%d, %d): %q, %v, not %q, %v", class, id, s, there, w.values, is)
	}
	if n := sig.Side(class, id); n != w.side {
		t.Errorf("Side(%d, %d): %d, not %d", class, id, n, w.side)
	}
	if c := sig.Content(class, id); c != w.content {
		t.Errorf("Content(%d, %d): %v, not %v", class, id, c, w.content)
	}
	if l := sig.Replies(class, id); !slices.Equal(l, w.replies) {
		t.Errorf("Replies(%d, %d): %v, not %v", class, id, l, w.replies)
	}
	if n := sig.Asks(class, id); n != w.asks {
		t.Errorf("Asks(%d, %d): %d, not %d", class, id, n, w.asks)
	}
}

// TestMethods (P5.1, P5.2): every method of the chapter.
func TestMethods(t *testing.T) {
	all, order := wants(t)
	if len(order) != 58 || len(all) != 58 {
		t.Fatalf("the chapter has 58 methods, not %d", len(order))
	}
	for _, at := range order {
		check(t, at, all[at], true)
	}
}

// TestSome (P5.1, P5.2): the chapter's examples and named edges, written out.
func TestSome(t *testing.T) {
	for _, x := range []struct {
		class, id int
		w         want
	}{
		{api.CConn, 30, want{values: "sls", side: 2, replies: []int{31}}},
		{api.CConn, 51, want{side: 3, asks: 50}},
		{api.CConn, 61, want{side: 2}},
		{api.CChan, 20, want{values: "b", side: 3, replies: []int{21}}},
		{api.CExchange, 11, want{side: 2, asks: 10}},
		{api.CQueue, 11, want{values: "Sll", side: 2, asks: 10}},
		{api.CBasic, 40, want{values: "sSSbb", side: 1, content: true}},
		{api.CBasic, 50, want{values: "sSSS", side: 2, content: true}},
		{api.CBasic, 60, want{values: "SqbSS", side: 2, content: true}},
		{api.CBasic, 70, want{values: "sSb", side: 1, replies: []int{71, 72}}},
		{api.CBasic, 71, want{values: "qbSSl", side: 2, asks: 70, content: true}},
		{api.CBasic, 72, want{values: "S", side: 2, asks: 70}},
		{api.CBasic, 120, want{values: "qbb", side: 3}},
		{api.CConfirm, 10, want{values: "b", side: 1, replies: []int{11}}},
		{api.CTx, 10, want{side: 1, replies: []int{11}}},
		{api.CTx, 31, want{side: 2, asks: 30}},
	} {
		check(t, [2]int{x.class, x.id}, x.w, true)
	}
}

// TestNone (P5.1, P5.2): where there is no method, nothing is told.
func TestNone(t *testing.T) {
	for _, at := range [][2]int{
		{0, 0}, {0, 10}, {10, 0}, {60, 0}, {90, 0},
		{-10, 10}, {10, -10}, {-10, -10}, {-60, -40}, {60, -40}, {60, -71}, {-1, -1},
		{30, 10}, {61, 10}, {70, 10}, {80, 10}, {86, 10}, {100, 10},
		{10, 12}, {10, 62}, {20, 30}, {20, 31}, {40, 30}, {50, 60}, {60, 22}, {60, 41}, {60, 73}, {60, 130}, {85, 20}, {90, 32}, {90, 40},
		{40, 60}, {71, 60}, {50, 71}, {20, 71}, {10, 71}, {90, 71}, {10, 72}, {40, 40}, {90, 50}, {85, 60},
		{60 + 1<<32, 40}, {60, 40 + 1<<32}, {60 + 1<<16, 71}, {60, 71 + 1<<16}, {266, 10}, {10, 266},
		{math.MaxInt, math.MaxInt}, {math.MinInt, math.MinInt}, {60, math.MaxInt}, {60, math.MinInt}, {math.MaxInt, 11}, {math.MinInt, 11},
	} {
		check(t, at, want{}, false)
	}
}

// TestEverywhere (P5.1, P5.2): all small classes and ids, whether there is a method or not.
func TestEverywhere(t *testing.T) {
	all, _ := wants(t)
	for class := -100; class <= 300; class++ {
		for id := -130; id <= 300; id++ {
			w, is := all[[2]int{class, id}]
			check(t, [2]int{class, id}, w, is)
		}
	}
}

// TestAll (P5.2): all of them, rising by class and id.
func TestAll(t *testing.T) {
	_, order := wants(t)
	l := sig.All()
	if !slices.Equal(l, order) {
		t.Errorf("All: %v, not %v", l, order)
	}
	for i := 1; i < len(l); i++ {
		if slices.Compare(l[i-1][:], l[i][:]) >= 0 {
			t.Errorf("All doesn't rise from %v to %v", l[i-1], l[i])
		}
	}
}

// TestReplies (P5.3): a reply is sent by the other side, and has no replies; Asks goes back where Replies goes.
func TestReplies(t *testing.T) {
	replies := 0
	for _, at := range sig.All() {
		class, id := at[0], at[1]
		l := sig.Replies(class, id)
		if !slices.IsSorted(l) || len(slices.Compact(slices.Clone(l))) != len(l) {
			t.Errorf("Replies(%d, %d) don't rise: %v", class, id, l)
		}
		for _, r := range l {
			replies++
			if _, is := sig.Of(class, r); !is {
				t.Errorf("%d, %d: the reply %d isn't there", class, id, r)
			}
			if asks := sig.Asks(class, r); asks != id {
				t.Errorf("%d, %d: its reply %d answers %d", class, id, r, asks)
			}
			if more := sig.Replies(class, r); len(more) != 0 {
				t.Errorf("%d, %d: its reply %d has replies %v", class, id, r, more)
			}
			// Whoever may be asked must be able to answer: a side that sends it stands for the other that replies.
			others := map[int]int{1: 2, 2: 1, 3: 3}
			if side, other := sig.Side(class, r), others[sig.Side(class, id)]; side&other != other {
				t.Errorf("%d, %d: its reply %d is of side %d, not %d", class, id, r, side, other)
			}
		}
		if asks := sig.Asks(class, id); asks != 0 && !slices.Contains(sig.Replies(class, asks), id) {
			t.Errorf("%d, %d answers %d, whose replies don't hold it", class, id, asks)
		}
	}
	if replies != 25 {
		t.Errorf("%d replies, not 25", replies)
	}
}

// TestLetters (P5.1): a signature has none but the chapter's letters, a side is 1, 2 or 3.
func TestLetters(t *testing.T) {
	for _, at := range sig.All() {
		s, _ := sig.Of(at[0], at[1])
		if strings.Trim(s, "oslqbSLT") != "" {
			t.Errorf("Of(%d, %d): %q", at[0], at[1], s)
		}
		if side := sig.Side(at[0], at[1]); side < 1 || side > 3 {
			t.Errorf("Side(%d, %d): %d", at[0], at[1], side)
		}
	}
}

// TestNewMemory (R3, R4): who writes into an answer changes no later one.
func TestNewMemory(t *testing.T) {
	before := fmt.Sprint(sig.All(), sig.Replies(60, 70), sig.Replies(10, 10))
	all, replies, one := sig.All(), sig.Replies(60, 70), sig.Replies(10, 10)
	for i := range all {
		all[i] = [2]int{-1, -1}
	}
	for _, l := range [][]int{replies, one} {
		for i := range l {
			l[i] = -1
		}
		_ = append(l, -1)
	}
	if after := fmt.Sprint(sig.All(), sig.Replies(60, 70), sig.Replies(10, 10)); after != before {
		t.Errorf("%s became %s", before, after)
	}
}
