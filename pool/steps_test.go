package pool_test

import (
	"math"
	"math/rand"
	"slices"
	"testing"

	"interchange/api"
	"interchange/pool"
)

// grid is a pool as a plain table: what is on each channel of each connection; a State of 0 tells that there is none.
type grid struct {
	most []int
	at   [4][6]api.Slot
}

func drawn(p api.Pool) grid {
	g := grid{most: slices.Clone(p.Max)}
	for _, x := range p.L {
		g.at[x.Conn][x.Chan] = x
	}
	return g
}

func (g grid) pool() api.Pool {
	p := api.Pool{Max: slices.Clone(g.most)}
	for _, row := range g.at {
		for _, x := range row {
			if x.State != 0 {
				p.L = append(p.L, x)
			}
		}
	}
	return p
}

func (g grid) there(c, ch int) bool {
	return 0 <= c && c < 4 && 0 <= ch && ch < 6 && g.at[c][ch].State != 0
}

func (g grid) of(who int) api.Slot {
	for _, x := range g.pool().L {
		if who > 0 && x.Who == who {
			return x
		}
	}
	return api.Slot{}
}

func (g grid) count(c int) int {
	n := 0
	for _, x := range g.at[c] {
		n += min(x.State, 1)
	}
	return n
}

// lease is told the long way: by how few a connection may have, then by its place.
func (g grid) lease(who int) (grid, api.Slot, api.Errno) {
	if who < 1 {
		return g, api.Slot{}, api.ErrArg
	}
	if g.of(who).State != 0 {
		return g, api.Slot{}, api.ErrThere
	}
	for few := range 6 {
		for c, most := range g.most {
			if g.count(c) != few || few >= most {
				continue
			}
			ch := 1
			for g.there(c, ch) {
				ch++
			}
			g.at[c][ch] = o(c, ch, who)
			return g, g.at[c][ch], api.OK
		}
	}
	return g, api.Slot{}, api.ErrFull
}

// step is what a call other than Lease and Down does to a slot, by what it was: 0 tells none.
func (g grid) step(c, ch int, to map[int]api.Slot) (grid, api.Errno) {
	if !g.there(c, ch) {
		return g, api.ErrNone
	}
	x, may := to[g.at[c][ch].State]
	if !may {
		return g, api.ErrNone
	}
	if x.Who != 0 {
		x.Who = g.at[c][ch].Who
	}
	g.at[c][ch] = x
	return g, api.OK
}

func (g grid) opened(c, ch int) (grid, api.Errno) {
	return g.step(c, ch, map[int]api.Slot{api.SOpening: l(c, ch, 1)})
}

func (g grid) release(c, ch int) (grid, api.Errno) {
	return g.step(c, ch, map[int]api.Slot{api.SOpening: s(c, ch), api.SLeased: s(c, ch)})
}

func (g grid) clean(c, ch int) (grid, api.Errno) {
	return g.step(c, ch, map[int]api.Slot{api.SScrub: {}})
}

func (g grid) up(c, most int) (grid, api.Errno) {
	if c < 0 || c >= len(g.most) || most < 1 || most > 65535 {
		return g, api.ErrArg
	}
	if g.most[c] > 0 {
		return g, api.ErrThere
	}
	g.most = slices.Clone(g.most)
	g.most[c] = most
	return g, api.OK
}

func (g grid) down(c int) (grid, []int) {
	if c < 0 || c >= len(g.most) {
		return g, nil
	}
	var whos []int
	for ch := range 6 {
		if g.at[c][ch].Who > 0 {
			whos = append(whos, g.at[c][ch].Who)
		}
	}
	g.most = slices.Clone(g.most)
	g.most[c], g.at[c] = 0, [6]api.Slot{}
	return g, whos
}

// eachPool goes through all right pools of a few channels: each absent, or in one of the states, whos given by turns that rise, and fall.
func eachPool(yield func(api.Pool) bool) {
	for _, most := range [][]int{nil, {0}, {1}, {3}, {5}, {0, 2}, {2, 0}, {1, 1}, {2, 1}, {1, 3}, {2, 2}, {0, 0, 1}, {1, 0, 2}, {1, 1, 1}, {2, 1, 2}, {1, 1, 0, 2}} {
		var places [][2]int
		for c, n := range most {
			for ch := range n {
				places = append(places, [2]int{c, ch + 1})
			}
		}
		for n := range 1 << (2 * len(places)) {
			for _, who := range []func(int) int{func(i int) int { return i + 1 }, func(i int) int { return 7 - i }} {
				p := api.Pool{Max: most}
				for i, at := range places {
					switch n >> (2 * i) & 3 {
					case api.SOpening:
						p.L = append(p.L, o(at[0], at[1], who(i)))
					case api.SLeased:
						p.L = append(p.L, l(at[0], at[1], who(i)))
					case api.SScrub:
						p.L = append(p.L, s(at[0], at[1]))
					}
				}
				if !yield(p) {
					return
				}
			}
		}
	}
}

// TestEachPool (P13.1, P13.2, P13.3, P13.4): each call, of each pool of a few channels, is as the plain table tells it; a right pool stays right.
func TestEachPool(t *testing.T) {
	for p := range eachPool {
		if !pool.Right(p) {
			t.Fatal("not right: ", p)
		}
		g := drawn(p)
		check := func(what string, k api.Pool, want grid, e, why api.Errno) {
			t.Helper()
			holds(t, what, k, want.pool(), e, why)
			if !pool.Right(k) {
				t.Error(what, "not right:", k)
			}
		}
		for who := -1; who < 9; who++ {
			want, slot, why := g.lease(who)
			k, got, e := pool.Lease(p, who)
			check("Lease", k, want, e, why)
			x := g.of(who)
			if y, is := pool.Of(p, who); got != slot || y != x || is != (x.State > 0) {
				t.Errorf("%v: of %d %v, leased %v", p, who, y, got)
			}
		}
		for c := -1; c <= len(p.Max); c++ {
			for ch := -1; ch < 7; ch++ {
				want, why := g.opened(c, ch)
				k, e := pool.Opened(p, c, ch)
				check("Opened", k, want, e, why)
				want, why = g.release(c, ch)
				k, e = pool.Release(p, c, ch)
				check("Release", k, want, e, why)
				want, why = g.clean(c, ch)
				k, e = pool.Clean(p, c, ch)
				check("Clean", k, want, e, why)
				want, why = g.up(c, ch)
				k, e = pool.Up(p, c, ch)
				check("Up", k, want, e, why)
				if x, is := pool.At(p, c, ch); is != g.there(c, ch) || is && x != g.at[c][ch] || !is && x != (api.Slot{}) {
					t.Errorf("%v: at %d, %d: %v, %v", p, c, ch, x, is)
				}
			}
			want, whos := g.down(c)
			k, got := pool.Down(p, c)
			check("Down", k, want, api.OK, api.OK)
			if !slices.Equal(got, whos) {
				t.Errorf("%v: down %d: %v, not %v", p, c, got, whos)
			}
		}
	}
}

// plain is what Right tells, condition by condition.
func plain(p api.Pool) bool {
	ok := len(p.Max) <= 64
	for _, n := range p.Max {
		ok = ok && 0 <= n && n <= 65535
	}
	for i, x := range p.L {
		ok = ok && 0 <= x.Conn && x.Conn < len(p.Max) && 1 <= x.Chan && x.Chan <= p.Max[x.Conn] && 1 <= x.State && x.State <= 3
		ok = ok && (x.State == 3 && x.Who == 0 || x.State != 3 && x.Who > 0)
		for _, y := range p.L[i+1:] {
			ok = ok && x.Conn*100000+x.Chan < y.Conn*100000+y.Chan && (x.Who != y.Who || x.Who == 0)
		}
	}
	return ok
}

// TestRightOfAll (P13.1): pools of two slots, right and wrong.
func TestRightOfAll(t *testing.T) {
	var slots []api.Slot
	for n := range 4 * 4 * 5 * 4 {
		slots = append(slots, api.Slot{Conn: n%4 - 1, Chan: n / 4 % 4, State: n / 16 % 5, Who: n/80 - 1})
	}
	right := 0
	for _, most := range [][]int{{}, {2}, {0, 2}, {1, 2}, {2, 1}, {2, -1}, {65536, 2}} {
		for _, x := range slots {
			for _, y := range slots {
				p := of(most, x, y)
				want := plain(p)
				if pool.Right(p) != want {
					t.Fatalf("Right(%v): not %v", p, want)
				}
				if want {
					right++
				}
			}
		}
	}
	if right == 0 {
		t.Error("none is right")
	}
}

// TestManyCalls (P13.4): through many calls a right pool stays right, no slot has two, and none is leased anew ahead of being cleaned, or of its connection's going down.
func TestManyCalls(t *testing.T) {
	for seed := range int64(40) {
		r := rand.New(rand.NewSource(seed))
		p, g := pool.New(4), grid{most: make([]int, 4)}
		taken := map[[2]int]int{} // whose channel it is; 0: nobody's, but it isn't clean
		for range 3000 {
			c, ch, who := r.Intn(6)-1, r.Intn(7)-1, r.Intn(12)
			var e, why api.Errno
			switch r.Intn(9) {
			case 0:
				p, e = pool.Up(p, c, ch)
				g, why = g.up(c, ch)
			case 1:
				if r.Intn(8) > 0 {
					continue
				}
				var whos, want []int
				p, whos = pool.Down(p, c)
				g, want = g.down(c)
				if !slices.Equal(whos, want) {
					t.Fatal(whos, want)
				}
				for ch := range 6 {
					delete(taken, [2]int{c, ch})
				}
			case 2, 3, 4:
				var x, y api.Slot
				p, x, e = pool.Lease(p, who)
				g, y, why = g.lease(who)
				if x != y {
					t.Fatal(x, y)
				}
				if e != api.OK {
					break
				}
				if had, is := taken[[2]int{x.Conn, x.Chan}]; is {
					t.Fatalf("%v is leased, and %d has it", x, had)
				}
				taken[[2]int{x.Conn, x.Chan}] = who
			case 5:
				p, e = pool.Opened(p, c, ch)
				g, why = g.opened(c, ch)
			case 6, 7:
				p, e = pool.Release(p, c, ch)
				g, why = g.release(c, ch)
				if e == api.OK {
					taken[[2]int{c, ch}] = 0
				}
			case 8:
				p, e = pool.Clean(p, c, ch)
				g, why = g.clean(c, ch)
				if e == api.OK {
					delete(taken, [2]int{c, ch})
				}
			}
			holds(t, "a step", p, g.pool(), e, why)
			if !pool.Right(p) || len(p.L) != len(taken) || t.Failed() {
				t.Fatal(seed, p, taken)
			}
			for _, x := range p.L {
				if had, is := taken[[2]int{x.Conn, x.Chan}]; !is || had != x.Who {
					t.Fatal(x, had, is)
				}
			}
		}
	}
}

// calls are calls that change a pool, with what is right, and with what isn't.
func calls() []func(api.Pool) (api.Pool, []int) {
	var l []func(api.Pool) (api.Pool, []int)
	for _, c := range []int{-1, 0, 1, 2, 3} {
		l = append(l, func(p api.Pool) (api.Pool, []int) { return pool.Down(p, c) })
		for _, n := range []int{0, 1, 2, 3, 4} {
			l = append(l, func(p api.Pool) (api.Pool, []int) { k, _ := pool.Up(p, c, n); return k, nil })
			l = append(l, func(p api.Pool) (api.Pool, []int) { k, _ := pool.Opened(p, c, n); return k, nil })
			l = append(l, func(p api.Pool) (api.Pool, []int) { k, _ := pool.Release(p, c, n); return k, nil })
			l = append(l, func(p api.Pool) (api.Pool, []int) { k, _ := pool.Clean(p, c, n); return k, nil })
		}
	}
	for who := range 10 {
		l = append(l, func(p api.Pool) (api.Pool, []int) { k, _, _ := pool.Lease(p, who); return k, nil })
	}
	return l
}

// TestArgumentsStay (R3): no call writes into what it is handed, nor into the room behind it, nor does what came out show what is written there later.
func TestArgumentsStay(t *testing.T) {
	mark := api.Slot{Conn: -7, Chan: -7, State: -7, Who: -7}
	for i, call := range calls() {
		most := []int{4, 0, 3, -7, -7}
		slots := []api.Slot{o(0, 1, 5), l(0, 3, 6), s(0, 4), l(2, 1, 7), s(2, 2), mark, mark, mark}
		p := api.Pool{Max: most[:3], L: slots[:5]}
		k, whos := call(p)
		first, told := drawn(k).pool(), slices.Clone(whos)
		if !slices.Equal(most, []int{4, 0, 3, -7, -7}) || !slices.Equal(slots, []api.Slot{o(0, 1, 5), l(0, 3, 6), s(0, 4), l(2, 1, 7), s(2, 2), mark, mark, mark}) {
			t.Errorf("%d: an argument is changed: %v, %v", i, most, slots)
		}
		for j := range most {
			most[j] = -9
		}
		for j := range slots {
			slots[j] = api.Slot{}
		}
		if !same(k, first) || !slices.Equal(whos, told) {
			t.Errorf("%d: an answer is changed: %v", i, k)
		}
		for j := range k.Max[:cap(k.Max)] {
			k.Max[:cap(k.Max)][j] = 1
		}
		for j := range k.L[:cap(k.L)] {
			k.L[:cap(k.L)][j] = mark
		}
		if slices.Contains(most, 1) || slices.Contains(slots, mark) {
			t.Errorf("%d: an answer is in its argument's memory", i)
		}
	}
}

// TestWrongPools (R1): no call panics where a pool isn't right.
func TestWrongPools(t *testing.T) {
	wild := []int{math.MinInt, -1, 0, 1, 2, 65536, math.MaxInt}
	for _, a := range wild {
		for _, b := range wild {
			for _, p := range []api.Pool{
				of([]int{a, b}), of(nil, o(a, b, 1)), of([]int{a}, o(b, 1, 1), o(0, b, 1)), of([]int{1, 1}, l(a, 1, b), l(b, 1, a), s(0, 1), s(0, 1)),
				of(make([]int, 70), api.Slot{Conn: a, Chan: b, State: a, Who: b}),
			} {
				pool.Right(p)
				for _, call := range calls() {
					call(p)
				}
				for _, n := range wild {
					pool.At(p, a, n)
					pool.Of(p, n)
				}
			}
		}
	}
}
