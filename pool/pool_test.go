package pool_test

import (
	"math"
	"slices"
	"testing"

	"interchange/api"
	"interchange/pool"
)

// o, l and s are slots that are opening, leased, and being cleaned.
func o(c, ch, who int) api.Slot {
	return api.Slot{Conn: c, Chan: ch, State: api.SOpening, Who: who}
}
func l(c, ch, who int) api.Slot { return api.Slot{Conn: c, Chan: ch, State: api.SLeased, Who: who} }
func s(c, ch int) api.Slot      { return api.Slot{Conn: c, Chan: ch, State: api.SScrub} }

// of is a pool of these connections and slots.
func of(most []int, slots ...api.Slot) api.Pool { return api.Pool{Max: most, L: slots} }

func same(a, b api.Pool) bool { return slices.Equal(a.Max, b.Max) && slices.Equal(a.L, b.L) }

func holds(t *testing.T, what string, got, want api.Pool, e, why api.Errno) {
	t.Helper()
	if !same(got, want) || e != why {
		t.Errorf("%s: %v, %d, not %v, %d", what, got, e, want, why)
	}
}

func leases(t *testing.T, p api.Pool, who int, want api.Pool, slot api.Slot, why api.Errno) {
	t.Helper()
	k, got, e := pool.Lease(p, who)
	if !same(k, want) || got != slot || e != why {
		t.Errorf("Lease(%v, %d): %v, %v, %d, not %v, %v, %d", p, who, k, got, e, want, slot, why)
	}
}

func falls(t *testing.T, p api.Pool, c int, want api.Pool, whos []int) {
	t.Helper()
	if k, got := pool.Down(p, c); !same(k, want) || !slices.Equal(got, whos) {
		t.Errorf("Down(%v, %d): %v, %v, not %v, %v", p, c, k, got, want, whos)
	}
}

// P13.1

func TestNew(t *testing.T) {
	for _, x := range [][2]int{{math.MinInt, 0}, {-1 << 32, 0}, {-1, 0}, {0, 0}, {1, 1}, {2, 2}, {63, 63}, {64, 64}, {65, 64}, {1<<32 + 1, 64}, {math.MaxInt, 64}} {
		p := pool.New(x[0])
		if !same(p, api.Pool{Max: make([]int, x[1])}) || !pool.Right(p) {
			t.Errorf("New(%d): %v", x[0], p)
		}
	}
}

func TestRight(t *testing.T) {
	all := slices.Repeat([]int{65535}, 64)
	for _, p := range []api.Pool{
		{}, of([]int{0}), of([]int{1}), of([]int{65535}), of(make([]int, 64)), of(all),
		of([]int{1}, o(0, 1, 1)), of([]int{1}, l(0, 1, math.MaxInt)), of([]int{1}, s(0, 1)),
		of([]int{2}, o(0, 1, 2), l(0, 2, 1)), of([]int{2}, s(0, 1), s(0, 2)), of([]int{3}, o(0, 3, 5)),
		of([]int{0, 2, 0, 1}, l(1, 2, 9), o(3, 1, 8)),
		of([]int{2, 2}, l(0, 2, 9), l(1, 1, 8), s(1, 2)),
		of(all, o(0, 65535, 1), l(63, 1, 2), s(63, 65535)),
	} {
		if !pool.Right(p) {
			t.Errorf("Right(%v): false", p)
		}
	}
}

// TestRightBrokenAlone (P13.1): pools of which one condition doesn't hold.
func TestRightBrokenAlone(t *testing.T) {
	two := []int{2, 2}
	for _, p := range []api.Pool{
		of(make([]int, 65)), of(slices.Repeat([]int{1}, 65), o(0, 1, 1)),
		of([]int{-1}), of([]int{1, -1, 1}), of([]int{math.MinInt}), of([]int{65536}), of([]int{1, 65536}), of([]int{math.MaxInt}), of([]int{1 << 32}),
		of(two, o(0, 2, 1), o(0, 1, 2)), of(two, o(1, 1, 1), o(0, 1, 2)), of(two, o(1, 1, 1), o(0, 2, 2)), of(two, o(0, 1, 1), o(1, 1, 2), o(0, 2, 3)),
		of(two, o(0, 1, 1), o(0, 1, 2)), of(two, s(0, 1), s(0, 1)), of(two, o(0, 1, 1), l(1, 2, 2), s(1, 2)),
		of(two, o(-1, 1, 1)), of(two, o(2, 1, 1)), of(two, s(2, 1)), of(nil, o(0, 1, 1)), of(two, o(math.MinInt, 1, 1)), of(two, o(math.MaxInt, 1, 1)),
		of(two, o(0, 0, 1)), of(two, o(0, -1, 1)), of(two, o(0, 3, 1)), of(two, o(1, 0, 1)), of(two, s(1, 3)), of([]int{2, 0}, o(1, 1, 1)), of([]int{3, 2}, o(1, 3, 1)), of([]int{65535}, s(0, 65536)), of(two, o(0, math.MinInt, 1)), of(two, o(0, math.MaxInt, 1)),
		of(two, api.Slot{Conn: 0, Chan: 1, State: 0, Who: 1}), of(two, api.Slot{Conn: 0, Chan: 1, State: 4, Who: 1}), of(two, api.Slot{Conn: 0, Chan: 1, State: -1, Who: 1}),
		of(two, api.Slot{Conn: 0, Chan: 1}), of(two, api.Slot{Conn: 0, Chan: 1, State: 4}), of(two, api.Slot{Conn: 0, Chan: 1, State: 1<<32 + 1, Who: 1}),
		of(two, o(0, 1, 0)), of(two, l(0, 1, 0)), of(two, o(0, 1, -1)), of(two, l(0, 1, -1)), of(two, l(1, 2, math.MinInt)),
		of(two, api.Slot{Conn: 0, Chan: 1, State: api.SScrub, Who: 1}), of(two, api.Slot{Conn: 1, Chan: 2, State: api.SScrub, Who: -1}),
		of(two, o(0, 1, 1), l(0, 2, 1)), of(two, o(0, 1, 7), s(0, 2), o(1, 2, 7)), of(two, l(0, 1, 7), l(0, 2, 8), l(1, 1, 9), l(1, 2, 7)),
	} {
		if pool.Right(p) {
			t.Errorf("Right(%v): true", p)
		}
	}
}

func TestUp(t *testing.T) {
	p := of([]int{0, 2, 0}, l(1, 1, 7), s(1, 2))
	up := func(most ...int) api.Pool { return of(most, l(1, 1, 7), s(1, 2)) }
	for _, x := range []struct {
		c, most int
		want    api.Pool
		e       api.Errno
	}{
		{0, 1, up(1, 2, 0), api.OK}, {0, 2, up(2, 2, 0), api.OK}, {0, 65534, up(65534, 2, 0), api.OK}, {0, 65535, up(65535, 2, 0), api.OK},
		{2, 1, up(0, 2, 1), api.OK}, {2, 65535, up(0, 2, 65535), api.OK},
		{0, 0, p, api.ErrArg}, {0, -1, p, api.ErrArg}, {0, 65536, p, api.ErrArg}, {0, math.MinInt, p, api.ErrArg}, {0, math.MaxInt, p, api.ErrArg}, {0, 1<<32 + 1, p, api.ErrArg},
		{-1, 1, p, api.ErrArg}, {3, 1, p, api.ErrArg}, {math.MinInt, 1, p, api.ErrArg}, {math.MaxInt, 1, p, api.ErrArg}, {-1, 0, p, api.ErrArg}, {3, 65536, p, api.ErrArg},
		{1, 1, p, api.ErrThere}, {1, 2, p, api.ErrThere}, {1, 65535, p, api.ErrThere}, {1, 0, p, api.ErrArg}, {1, 65536, p, api.ErrArg}, {1, -1, p, api.ErrArg},
	} {
		k, e := pool.Up(p, x.c, x.most)
		holds(t, "Up", k, x.want, e, x.e)
	}
	k, e := pool.Up(api.Pool{}, 0, 1)
	holds(t, "Up of none", k, api.Pool{}, e, api.ErrArg)
	k, e = pool.Up(of(make([]int, 64)), 63, 9)
	holds(t, "Up of the last", k, of(append(make([]int, 63), 9)), e, api.OK)
}

func TestDown(t *testing.T) {
	p := of([]int{3, 4, 0, 2}, l(0, 1, 9), s(0, 2), o(1, 1, 8), l(1, 2, 3), s(1, 3), l(1, 4, 5), s(3, 2))
	falls(t, p, 0, of([]int{0, 4, 0, 2}, o(1, 1, 8), l(1, 2, 3), s(1, 3), l(1, 4, 5), s(3, 2)), []int{9})
	falls(t, p, 1, of([]int{3, 0, 0, 2}, l(0, 1, 9), s(0, 2), s(3, 2)), []int{8, 3, 5})
	falls(t, p, 2, p, nil)
	falls(t, p, 3, of([]int{3, 4, 0, 0}, p.L[:6]...), nil)
	for _, c := range []int{-1, 4, math.MinInt, math.MaxInt, 1 << 32} {
		falls(t, p, c, p, nil)
	}
	falls(t, api.Pool{}, 0, api.Pool{}, nil)
	falls(t, of([]int{7}), 0, of([]int{0}), nil)
	falls(t, of([]int{1, 1}, s(0, 1), o(1, 1, 1)), 0, of([]int{0, 1}, o(1, 1, 1)), nil)
	// Who has the greatest channel may be the least.
	falls(t, of([]int{3}, o(0, 1, 30), l(0, 2, 20), o(0, 3, 10)), 0, of([]int{0}), []int{30, 20, 10})
	falls(t, of([]int{65535}, o(0, 65535, math.MaxInt)), 0, of([]int{0}), []int{math.MaxInt})
}

// P13.2

func TestLeaseRefused(t *testing.T) {
	p := of([]int{3, 1}, o(0, 1, 5), l(0, 2, 6), s(1, 1))
	for _, who := range []int{0, -1, math.MinInt, -1 << 32} {
		leases(t, p, who, p, api.Slot{}, api.ErrArg)
	}
	leases(t, p, 5, p, api.Slot{}, api.ErrThere)
	leases(t, p, 6, p, api.Slot{}, api.ErrThere)
	full := of([]int{2, 0, 1}, o(0, 1, 5), s(0, 2), l(2, 1, 6))
	leases(t, full, 0, full, api.Slot{}, api.ErrArg)
	leases(t, full, 5, full, api.Slot{}, api.ErrThere)
	leases(t, full, 6, full, api.Slot{}, api.ErrThere)
	leases(t, full, 7, full, api.Slot{}, api.ErrFull)
	leases(t, full, math.MaxInt, full, api.Slot{}, api.ErrFull)
	for _, p := range []api.Pool{{}, of([]int{0}), of(make([]int, 64)), of([]int{1}, s(0, 1)), of([]int{1}, o(0, 1, 1))} {
		leases(t, p, 2, p, api.Slot{}, api.ErrFull)
		leases(t, p, 0, p, api.Slot{}, api.ErrArg)
	}
}

func TestLease(t *testing.T) {
	one := func(p api.Pool, slot api.Slot, at int) {
		t.Helper()
		leases(t, p, slot.Who, of(p.Max, slices.Insert(slices.Clone(p.L), at, slot)...), slot, api.OK)
	}
	one(of([]int{1}), o(0, 1, 1), 0)
	one(of([]int{1}), o(0, 1, math.MaxInt), 0)
	one(of([]int{0, 0, 1}), o(2, 1, 1), 0)
	// The first of those with as few.
	one(of([]int{5, 5, 5}), o(0, 1, 1), 0)
	one(of([]int{5, 5, 5}, l(0, 1, 1)), o(1, 1, 2), 1)
	one(of([]int{5, 5, 5}, l(0, 1, 1), l(1, 1, 2)), o(2, 1, 3), 2)
	one(of([]int{5, 5, 5}, l(0, 1, 1), l(1, 1, 2), l(2, 1, 3)), o(0, 2, 4), 1)
	one(of([]int{5, 5, 5}, l(1, 1, 1)), o(0, 1, 4), 0)
	// The fewest, where that is first, in the middle, last.
	one(of([]int{3, 3, 3}, l(0, 1, 1), l(1, 1, 2), l(1, 2, 3), l(2, 1, 4), l(2, 2, 5)), o(0, 2, 6), 1)
	one(of([]int{3, 3, 3}, l(0, 1, 1), l(0, 2, 2), l(1, 1, 3), l(2, 1, 4), l(2, 2, 5)), o(1, 2, 6), 3)
	one(of([]int{3, 3, 3}, l(0, 1, 1), l(0, 2, 2), l(1, 1, 3), l(1, 2, 4), l(2, 1, 5)), o(2, 2, 6), 5)
	// Those that are full, or down, are passed by, however few they have; how much room is left doesn't tell.
	one(of([]int{1, 3, 0}, l(0, 1, 1), l(1, 1, 2), l(1, 2, 3)), o(1, 3, 4), 3)
	one(of([]int{0, 1, 9}, l(1, 1, 1), l(2, 1, 2), l(2, 2, 3)), o(2, 3, 4), 3)
	one(of([]int{65535, 2}, l(0, 1, 1), l(0, 2, 2), l(1, 1, 3)), o(1, 2, 4), 3)
	// Gaps: the least channel that none has, in whatever state it is.
	one(of([]int{4}, l(0, 2, 1)), o(0, 1, 2), 0)
	one(of([]int{4}, l(0, 1, 1), l(0, 3, 2)), o(0, 2, 3), 1)
	one(of([]int{4}, s(0, 1), o(0, 2, 1), l(0, 4, 2)), o(0, 3, 3), 2)
	one(of([]int{4}, s(0, 1), s(0, 2), s(0, 3)), o(0, 4, 3), 3)
	one(of([]int{9}, l(0, 4, 1), l(0, 6, 2)), o(0, 1, 3), 0)
	one(of([]int{2, 4}, l(0, 1, 1), l(0, 2, 2), l(1, 2, 3), l(1, 4, 4)), o(1, 1, 5), 2)
	one(of([]int{9, 9, 9}, l(0, 1, 1), l(0, 2, 2), l(0, 3, 3), l(1, 1, 4), l(1, 3, 5), l(2, 1, 6), l(2, 2, 7), l(2, 3, 8)), o(1, 2, 9), 4)
	// Those that are being cleaned count.
	one(of([]int{2, 2}, s(0, 1), o(1, 1, 1)), o(0, 2, 2), 1)
	one(of([]int{2, 2}, s(0, 1)), o(1, 1, 2), 1)
	one(of([]int{2, 3}, s(0, 1), s(0, 2), s(1, 1), l(1, 2, 7)), o(1, 3, 9), 4)
}

func TestLeaseAtLimits(t *testing.T) {
	p := of([]int{65535})
	for ch := range 65535 {
		p.L = append(p.L, l(0, ch+1, ch+1))
	}
	leases(t, p, 65536, p, api.Slot{}, api.ErrFull)
	but := func(i int) api.Pool { return of(p.Max, slices.Delete(slices.Clone(p.L), i, i+1)...) }
	for _, i := range []int{0, 1, 32767, 65533, 65534} {
		leases(t, but(i), 65536, of(p.Max, slices.Replace(slices.Clone(p.L), i, i+1, o(0, i+1, 65536))...), o(0, i+1, 65536), api.OK)
	}
	many := of(slices.Repeat([]int{1}, 64))
	for c := range 64 {
		want := of(many.Max, append(slices.Clone(many.L), o(c, 1, c+1))...)
		leases(t, many, c+1, want, o(c, 1, c+1), api.OK)
		many = want
	}
	leases(t, many, 65, many, api.Slot{}, api.ErrFull)
}

func TestOpenedReleaseClean(t *testing.T) {
	p := of([]int{4, 3}, o(0, 1, 5), l(0, 2, 6), s(0, 3), o(1, 1, 7), l(1, 2, 8), s(1, 3))
	with := func(i int, slot api.Slot) api.Pool {
		k := slices.Clone(p.L)
		k[i] = slot
		return of(p.Max, k...)
	}
	but := func(i int) api.Pool { return of(p.Max, slices.Delete(slices.Clone(p.L), i, i+1)...) }
	for _, x := range []struct {
		c, ch                    int
		opened, released, clean  api.Pool
		noOpen, noRelease, noEnd api.Errno
	}{
		{0, 1, with(0, l(0, 1, 5)), with(0, s(0, 1)), p, api.OK, api.OK, api.ErrNone},
		{0, 2, p, with(1, s(0, 2)), p, api.ErrNone, api.OK, api.ErrNone},
		{0, 3, p, p, but(2), api.ErrNone, api.ErrNone, api.OK},
		{1, 1, with(3, l(1, 1, 7)), with(3, s(1, 1)), p, api.OK, api.OK, api.ErrNone},
		{1, 2, p, with(4, s(1, 2)), p, api.ErrNone, api.OK, api.ErrNone},
		{1, 3, p, p, but(5), api.ErrNone, api.ErrNone, api.OK},
		{0, 4, p, p, p, api.ErrNone, api.ErrNone, api.ErrNone},
		{0, 0, p, p, p, api.ErrNone, api.ErrNone, api.ErrNone},
		{1, 0, p, p, p, api.ErrNone, api.ErrNone, api.ErrNone},
		{1, 4, p, p, p, api.ErrNone, api.ErrNone, api.ErrNone},
		{2, 1, p, p, p, api.ErrNone, api.ErrNone, api.ErrNone},
		{-1, 1, p, p, p, api.ErrNone, api.ErrNone, api.ErrNone},
		{0, -1, p, p, p, api.ErrNone, api.ErrNone, api.ErrNone},
		{math.MinInt, math.MaxInt, p, p, p, api.ErrNone, api.ErrNone, api.ErrNone},
		{1 << 32, 1, p, p, p, api.ErrNone, api.ErrNone, api.ErrNone},
		{0, 1<<32 + 3, p, p, p, api.ErrNone, api.ErrNone, api.ErrNone},
	} {
		k, e := pool.Opened(p, x.c, x.ch)
		holds(t, "Opened", k, x.opened, e, x.noOpen)
		k, e = pool.Release(p, x.c, x.ch)
		holds(t, "Release", k, x.released, e, x.noRelease)
		k, e = pool.Clean(p, x.c, x.ch)
		holds(t, "Clean", k, x.clean, e, x.noEnd)
	}
}

// P13.3

func TestAt(t *testing.T) {
	p := of([]int{4, 0, 3}, o(0, 1, 5), s(0, 3), l(2, 2, 8), s(2, 3))
	for c := -2; c < 5; c++ {
		for ch := -2; ch < 7; ch++ {
			want, is := api.Slot{}, false
			for _, x := range p.L {
				if [2]int{x.Conn, x.Chan} == [2]int{c, ch} {
					want, is = x, true
				}
			}
			if got, there := pool.At(p, c, ch); got != want || there != is {
				t.Errorf("At(%d, %d): %v, %v", c, ch, got, there)
			}
		}
	}
	for _, n := range []int{math.MinInt, math.MaxInt, 1 << 32} {
		for _, x := range [][2]int{{n, 1}, {0, n}, {n, n}, {n, 0}, {0, n + 1}} {
			if got, there := pool.At(p, x[0], x[1]); got != (api.Slot{}) || there {
				t.Errorf("At(%v): %v, %v", x, got, there)
			}
		}
	}
	if got, there := pool.At(api.Pool{}, 0, 0); got != (api.Slot{}) || there {
		t.Error(got, there)
	}
}

func TestOf(t *testing.T) {
	p := of([]int{4, 0, 3}, s(0, 1), o(0, 2, 5), s(0, 3), l(2, 2, math.MaxInt), l(2, 3, 1))
	for _, x := range []struct {
		who  int
		want api.Slot
		is   bool
	}{
		{5, p.L[1], true}, {math.MaxInt, p.L[3], true}, {1, p.L[4], true},
		{2, api.Slot{}, false}, {4, api.Slot{}, false}, {6, api.Slot{}, false}, {1<<32 + 5, api.Slot{}, false},
		{0, api.Slot{}, false}, {-1, api.Slot{}, false}, {-5, api.Slot{}, false}, {math.MinInt, api.Slot{}, false},
	} {
		if got, there := pool.Of(p, x.who); got != x.want || there != x.is {
			t.Errorf("Of(%d): %v, %v", x.who, got, there)
		}
	}
	if got, there := pool.Of(api.Pool{}, 0); got != (api.Slot{}) || there {
		t.Error(got, there)
	}
}

// TestExample: the chapter's example.
func TestExample(t *testing.T) {
	p, _ := pool.Up(pool.New(2), 0, 1)
	p, _ = pool.Up(p, 1, 1)
	leases(t, p, 7, of([]int{1, 1}, o(0, 1, 7)), o(0, 1, 7), api.OK)
	p, _, _ = pool.Lease(p, 7)
	leases(t, p, 8, of([]int{1, 1}, o(0, 1, 7), o(1, 1, 8)), o(1, 1, 8), api.OK)
	p, _, _ = pool.Lease(p, 8)
	leases(t, p, 9, p, api.Slot{}, api.ErrFull)
}
