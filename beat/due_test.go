package beat_test

import (
	"math"
	"slices"
	"testing"

	"interchange/api"
	"interchange/beat"
)

// due is what is due at a time.
func due(at, id int) api.Due { return api.Due{At: at, Id: id} }

// ahead: does one come ahead of another in the order of what is due?
func ahead(a, b api.Due) bool {
	if a.At != b.At {
		return a.At < b.At
	}
	return a.Id < b.Id
}

// ordered is a list in order, by the plainest way: each one is laid behind all that aren't later.
func ordered(l []api.Due) []api.Due {
	var out []api.Due
	for _, d := range l {
		i := 0
		for i < len(out) && !ahead(d, out[i]) {
			i++
		}
		out = slices.Insert(out, i, d)
	}
	return out
}

// but is a list without what has an Id.
func but(l []api.Due, id int) []api.Due {
	var out []api.Due
	for _, d := range l {
		if d.Id != id {
			out = append(out, d)
		}
	}
	return out
}

// parted is what is due till now, and what is later.
func parted(l []api.Due, now int) (taken []int, left []api.Due) {
	for _, d := range ordered(l) {
		if d.At <= now {
			taken = append(taken, d.Id)
		} else {
			left = append(left, d)
		}
	}
	return taken, left
}

// edges are numbers at the edges of an int, about 0, and such as differ in their upper half alone.
var edges = []int{math.MinInt, math.MinInt + 1, -1 << 32, -2, -1, 0, 1, 2, 1 << 32, 1<<32 + 1, math.MaxInt - 1, math.MaxInt}

// few have equal times with other Ids, equal Ids with other times, and the edges of both.
var few = []api.Due{due(5, 1), due(5, 0), due(3, 1), due(-4, 2), due(math.MinInt, math.MaxInt), due(math.MaxInt, math.MinInt)}

// lists goes through all lists of up to four of few: in order and out of it, with one Id or one of them several times.
func lists(yield func([]api.Due) bool) {
	level := [][]api.Due{{}}
	for range 5 {
		var longer [][]api.Due
		for _, l := range level {
			if !yield(l) {
				return
			}
			for _, d := range few {
				longer = append(longer, append(slices.Clone(l), d))
			}
		}
		level = longer
	}
}

// shuffles goes through long lists, each in an order of its own: a step that has no part with the length leads through all places.
func shuffles(yield func([]api.Due) bool) {
	for _, size := range []int{7, 31, 128, 257} {
		for _, step := range []int{1, 3, 5, 11, size - 1} {
			var l []api.Due
			for i := range size {
				k := i * step % size
				l = append(l, due(k/3-size/6, k%7-3))
			}
			if !yield(l) {
				return
			}
		}
	}
}

// each goes through both.
func each(yield func([]api.Due) bool) {
	for l := range lists {
		if !yield(l) {
			return
		}
	}
	shuffles(yield)
}

func holdsDue(t *testing.T, what string, l, got, want []api.Due) {
	t.Helper()
	if !slices.Equal(got, want) {
		t.Errorf("%s of %v: %v, not %v", what, l, got, want)
	}
}

// P12.1

func TestSet(t *testing.T) {
	for l := range each {
		for _, d := range few {
			holdsDue(t, "Set", l, beat.Set(l, d), ordered(append(but(l, d.Id), d)))
		}
	}
}

func TestSetWrittenOut(t *testing.T) {
	for _, x := range []struct {
		l    []api.Due
		d    api.Due
		want []api.Due
	}{
		{nil, due(5, 1), []api.Due{due(5, 1)}},
		{[]api.Due{}, due(0, 0), []api.Due{due(0, 0)}},
		{[]api.Due{due(5, 1)}, due(3, 2), []api.Due{due(3, 2), due(5, 1)}},                                             // ahead of all
		{[]api.Due{due(3, 2), due(9, 3)}, due(5, 1), []api.Due{due(3, 2), due(5, 1), due(9, 3)}},                       // amid them
		{[]api.Due{due(3, 2), due(5, 1)}, due(9, 3), []api.Due{due(3, 2), due(5, 1), due(9, 3)}},                       // behind them
		{[]api.Due{due(9, 3), due(3, 2)}, due(5, 1), []api.Due{due(3, 2), due(5, 1), due(9, 3)}},                       // out of order
		{[]api.Due{due(3, 1), due(5, 2)}, due(9, 1), []api.Due{due(5, 2), due(9, 1)}},                                  // later than it was
		{[]api.Due{due(5, 2), due(9, 1)}, due(3, 1), []api.Due{due(3, 1), due(5, 2)}},                                  // earlier than it was
		{[]api.Due{due(5, 2), due(9, 1)}, due(9, 1), []api.Due{due(5, 2), due(9, 1)}},                                  // as it was
		{[]api.Due{due(1, 1), due(1, 1), due(2, 1), due(2, 2)}, due(4, 1), []api.Due{due(2, 2), due(4, 1)}},            // all that it was
		{[]api.Due{due(5, 3), due(5, 1)}, due(5, 2), []api.Due{due(5, 1), due(5, 2), due(5, 3)}},                       // of one time
		{[]api.Due{due(5, 1), due(4, 1), due(4, 1)}, due(5, 0), []api.Due{due(4, 1), due(4, 1), due(5, 0), due(5, 1)}}, // others stay, however often
		{[]api.Due{due(0, 0)}, due(-1, -1), []api.Due{due(-1, -1), due(0, 0)}},
		{[]api.Due{due(-1, 5), due(0, 0)}, due(-1, -5), []api.Due{due(-1, -5), due(-1, 5), due(0, 0)}},
		{[]api.Due{due(math.MaxInt, 1)}, due(math.MinInt, 2), []api.Due{due(math.MinInt, 2), due(math.MaxInt, 1)}},
		{[]api.Due{due(0, math.MaxInt)}, due(0, math.MinInt), []api.Due{due(0, math.MinInt), due(0, math.MaxInt)}},
		{[]api.Due{due(1, math.MinInt), due(2, math.MaxInt)}, due(3, math.MinInt), []api.Due{due(2, math.MaxInt), due(3, math.MinInt)}},
	} {
		holdsDue(t, "Set", x.l, beat.Set(x.l, x.d), x.want)
	}
}

// TestSetAtEdges (P12.1): times and Ids are compared as they are, whatever numbers they are.
func TestSetAtEdges(t *testing.T) {
	for _, a := range edges {
		for _, b := range edges {
			var byTime, byId []api.Due
			byTime = beat.Set([]api.Due{due(a, 7)}, due(b, 8))
			holdsDue(t, "Set", nil, byTime, ordered([]api.Due{due(a, 7), due(b, 8)}))
			byId = beat.Set([]api.Due{due(7, a)}, due(7, b))
			if a == b {
				holdsDue(t, "Set", nil, byId, []api.Due{due(7, a)})
			} else {
				holdsDue(t, "Set", nil, byId, []api.Due{due(7, min(a, b)), due(7, max(a, b))})
			}
		}
	}
}

// TestSetOneByOne (P12.1): whatever order they are set in, they stand in one.
func TestSetOneByOne(t *testing.T) {
	for l := range each {
		var got, want []api.Due
		for _, d := range l {
			got, want = beat.Set(got, d), append(but(want, d.Id), d)
		}
		holdsDue(t, "Set one by one", l, got, ordered(want))
	}
}

func TestDrop(t *testing.T) {
	for l := range each {
		for _, id := range append([]int{-3, 3}, edges...) {
			holdsDue(t, "Drop", l, beat.Drop(l, id), ordered(but(l, id)))
		}
	}
}

func TestDropWrittenOut(t *testing.T) {
	for _, x := range []struct {
		l    []api.Due
		id   int
		want []api.Due
	}{
		{nil, 0, nil},
		{[]api.Due{}, 1, nil},
		{[]api.Due{due(5, 1)}, 1, nil},
		{[]api.Due{due(5, 1)}, 5, []api.Due{due(5, 1)}}, // 5 is a time there
		{[]api.Due{due(3, 2), due(5, 1), due(9, 3)}, 1, []api.Due{due(3, 2), due(9, 3)}},
		{[]api.Due{due(3, 2), due(5, 1), due(9, 2), due(3, 2)}, 2, []api.Due{due(5, 1)}},
		{[]api.Due{due(1, 4), due(2, 4)}, 4, nil},
		{[]api.Due{due(9, 3), due(5, 1), due(3, 2)}, 7, []api.Due{due(3, 2), due(5, 1), due(9, 3)}}, // not there, and out of order
		{[]api.Due{due(5, 1), due(3, 2), due(5, 0), due(5, 0)}, 2, []api.Due{due(5, 0), due(5, 0), due(5, 1)}},
		{[]api.Due{due(1, -1), due(2, 1)}, 1, []api.Due{due(1, -1)}},
		{[]api.Due{due(1, 1<<32+1), due(2, 1)}, 1, []api.Due{due(1, 1<<32+1)}},
	} {
		holdsDue(t, "Drop", x.l, beat.Drop(x.l, x.id), x.want)
	}
}

func TestNext(t *testing.T) {
	for l := range each {
		d, is := beat.Next(l)
		var want api.Due
		if len(l) > 0 {
			want = ordered(l)[0]
		}
		if d != want || is != (len(l) > 0) {
			t.Errorf("Next of %v: %v, %v, not %v", l, d, is, want)
		}
	}
}

func TestNextWrittenOut(t *testing.T) {
	for _, x := range []struct {
		l    []api.Due
		want api.Due
		is   bool
	}{
		{nil, api.Due{}, false},
		{[]api.Due{}, api.Due{}, false},
		{[]api.Due{{}}, api.Due{}, true},
		{[]api.Due{due(3, 2), due(5, 1)}, due(3, 2), true},
		{[]api.Due{due(5, 1), due(3, 2)}, due(3, 2), true}, // out of order
		{[]api.Due{due(5, 1), due(9, 0), due(4, 3), due(6, 2)}, due(4, 3), true},
		{[]api.Due{due(5, 2), due(5, 1), due(5, 3)}, due(5, 1), true},
		{[]api.Due{due(0, 0), due(-1, 9)}, due(-1, 9), true},
		{[]api.Due{due(math.MaxInt, 0), due(math.MinInt, 0)}, due(math.MinInt, 0), true},
	} {
		if d, is := beat.Next(x.l); d != x.want || is != x.is {
			t.Errorf("Next of %v: %v, %v", x.l, d, is)
		}
	}
}

func holdsTake(t *testing.T, l []api.Due, now int, ids []int, want []api.Due) {
	t.Helper()
	left, got := beat.Take(l, now)
	if !slices.Equal(got, ids) || !slices.Equal(left, want) {
		t.Errorf("Take of %v till %d: %v and %v, not %v and %v", l, now, left, got, want, ids)
	}
}

func TestTake(t *testing.T) {
	for l := range each {
		for _, now := range append([]int{-5, -4, -3, 3, 4, 5, 6}, edges...) {
			ids, left := parted(l, now)
			holdsTake(t, l, now, ids, left)
		}
	}
}

func TestTakeWrittenOut(t *testing.T) {
	l := []api.Due{due(9, 3), due(5, 1), due(3, 2), due(5, 0), due(5, 1)}
	holdsTake(t, l, 2, nil, []api.Due{due(3, 2), due(5, 0), due(5, 1), due(5, 1), due(9, 3)})
	holdsTake(t, l, 3, []int{2}, []api.Due{due(5, 0), due(5, 1), due(5, 1), due(9, 3)})
	holdsTake(t, l, 4, []int{2}, []api.Due{due(5, 0), due(5, 1), due(5, 1), due(9, 3)})
	holdsTake(t, l, 5, []int{2, 0, 1, 1}, []api.Due{due(9, 3)})
	holdsTake(t, l, 8, []int{2, 0, 1, 1}, []api.Due{due(9, 3)})
	holdsTake(t, l, 9, []int{2, 0, 1, 1, 3}, nil)
	holdsTake(t, l, math.MaxInt, []int{2, 0, 1, 1, 3}, nil)
	holdsTake(t, l, math.MinInt, nil, []api.Due{due(3, 2), due(5, 0), due(5, 1), due(5, 1), due(9, 3)})
	holdsTake(t, nil, 0, nil, nil)
	holdsTake(t, []api.Due{}, math.MaxInt, nil, nil)
	// Ids are told in the order of the times, not in their own; one whose Id is taken stays if it is later.
	holdsTake(t, []api.Due{due(1, 9), due(2, -9), due(3, 9)}, 2, []int{9, -9}, []api.Due{due(3, 9)})
	holdsTake(t, []api.Due{due(math.MaxInt, 1), due(math.MinInt, 2)}, math.MaxInt-1, []int{2}, []api.Due{due(math.MaxInt, 1)})
	holdsTake(t, []api.Due{due(0, math.MaxInt), due(0, math.MinInt)}, 0, []int{math.MinInt, math.MaxInt}, nil)
	holdsTake(t, []api.Due{due(0, math.MaxInt), due(1, math.MinInt)}, 0, []int{math.MaxInt}, []api.Due{due(1, math.MinInt)})
}

// TestExample (P12.1): the chapter's own.
func TestExample(t *testing.T) {
	l := beat.Set(beat.Set(nil, due(5, 1)), due(3, 2))
	if d, is := beat.Next(l); d != due(3, 2) || !is {
		t.Error(d, is)
	}
	holdsTake(t, l, 4, []int{2}, []api.Due{due(5, 1)})
}

// TestTakenTillNow (P12.3): what isn't taken is later than now, and nothing is lost.
func TestTakenTillNow(t *testing.T) {
	for l := range each {
		for _, now := range edges {
			left, ids := beat.Take(l, now)
			if d, is := beat.Next(left); is && d.At <= now {
				t.Errorf("Take of %v till %d leaves %v", l, now, d)
			}
			for _, d := range left {
				if d.At <= now {
					t.Errorf("Take of %v till %d leaves %v", l, now, d)
				}
			}
			if len(left)+len(ids) != len(l) {
				t.Errorf("Take of %v till %d: %v and %v", l, now, left, ids)
			}
			holdsTake(t, left, now, nil, left)
		}
	}
}

// TestListsStay (R3): what is handed in stays as it is, up to its capacity, and nobody's list is another's.
func TestListsStay(t *testing.T) {
	for name, call := range map[string]func([]api.Due) []api.Due{
		"Set":      func(l []api.Due) []api.Due { return beat.Set(l, due(4, 1)) },
		"Set new":  func(l []api.Due) []api.Due { return beat.Set(l, due(4, 77)) },
		"Drop":     func(l []api.Due) []api.Due { return beat.Drop(l, 1) },
		"Drop new": func(l []api.Due) []api.Due { return beat.Drop(l, 77) },
		"Next":     func(l []api.Due) []api.Due { d, _ := beat.Next(l); return []api.Due{d} },
		"Take":     func(l []api.Due) []api.Due { left, _ := beat.Take(l, 4); return left },
		"Take all": func(l []api.Due) []api.Due { left, _ := beat.Take(l, math.MaxInt); return left },
		"Take no":  func(l []api.Due) []api.Due { left, _ := beat.Take(l, math.MinInt); return left },
	} {
		for given := range each {
			whole := append(slices.Clone(given), due(-90, 90), due(91, -91), due(0, 0))
			l, was := whole[:len(given)], slices.Clone(whole)
			first := call(l)
			want := slices.Clone(first)
			if !slices.Equal(whole, was) {
				t.Errorf("%s changes %v to %v", name, was, whole)
			}
			for i := range first[:cap(first)] {
				first[:cap(first)][i] = due(-99, -99)
			}
			if !slices.Equal(whole, was) {
				t.Errorf("%s of %v shares its answer with it", name, was)
			}
			again := call(l)
			if !slices.Equal(again, want) {
				t.Errorf("%s of %v: %v, not %v again", name, l, again, want)
			}
			for i := range whole {
				whole[i] = due(98, 98)
			}
			if !slices.Equal(again, want) {
				t.Errorf("%s of %v keeps it", name, was)
			}
		}
	}
}
