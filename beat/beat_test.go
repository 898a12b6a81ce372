package beat_test

import (
	"math"
	"testing"

	"interchange/api"
	"interchange/beat"
)

const end = 1 << 40 // the last time that counts

// as is a beat as it counts, told by hand.
func as(b api.Beat) api.Beat {
	nearest := func(n, most int) int {
		switch {
		case n < 0:
			return 0
		case n > most:
			return most
		}
		return n
	}
	return api.Beat{Every: nearest(b.Every, 65535), In: nearest(b.In, end), Out: nearest(b.Out, end)}
}

// time is a time as it counts.
func time(n int) int { return as(api.Beat{In: n}).In }

var everies = []int{math.MinInt, -1 << 32, -65535, -1, 0, 1, 2, 60, 65534, 65535, 65536, 1<<32 + 1, math.MaxInt - 1, math.MaxInt}

var times = []int{math.MinInt, math.MinInt + 1, -1 << 40, -131070, -65535, -1, 0, 1, 2, 3, 59, 60, 61, 119, 120, 121, 65534, 65535, 65536, 131069, 131070, 131071, 1 << 32, end - 131071, end - 131070, end - 65536, end - 65535, end - 2, end - 1, end, end + 1, end + 65535, 1 << 41, math.MaxInt - 131070, math.MaxInt - 1, math.MaxInt}

// eachBeat goes through all beats of these.
func eachBeat(yield func(api.Beat) bool) {
	for _, every := range everies {
		for _, in := range times {
			for _, out := range times {
				if !yield(api.Beat{Every: every, In: in, Out: out}) {
					return
				}
			}
		}
	}
}

func holds(t *testing.T, what string, now int, got, want api.Beat) {
	t.Helper()
	if got != want {
		t.Errorf("%s at %d: %+v, not %+v", what, now, got, want)
	}
}

func ticks(t *testing.T, b api.Beat, now int, want api.Beat, send, gone bool) {
	t.Helper()
	if k, s, g := beat.Tick(b, now); k != want || s != send || g != gone {
		t.Errorf("Tick(%+v, %d): %+v, %v, %v, not %+v, %v, %v", b, now, k, s, g, want, send, gone)
	}
}

func falls(t *testing.T, b api.Beat, at int, is bool) {
	t.Helper()
	if n, due := beat.When(b); n != at || due != is {
		t.Errorf("When(%+v): %d, %v, not %d, %v", b, n, due, at, is)
	}
}

// P12.2

func TestNew(t *testing.T) {
	for _, every := range everies {
		for _, now := range times {
			holds(t, "New", now, beat.New(every, now), as(api.Beat{Every: every, In: now, Out: now}))
		}
	}
	holds(t, "New", 100, beat.New(10, 100), api.Beat{Every: 10, In: 100, Out: 100})
	holds(t, "New", -5, beat.New(70000, -5), api.Beat{Every: 65535})
	holds(t, "New", 7, beat.New(-1, 7), api.Beat{In: 7, Out: 7})
	holds(t, "New", end, beat.New(65535, end), api.Beat{Every: 65535, In: end, Out: end})
	holds(t, "New", end+1, beat.New(65536, end+1), api.Beat{Every: 65535, In: end, Out: end})
	holds(t, "New", end-1, beat.New(65534, end-1), api.Beat{Every: 65534, In: end - 1, Out: end - 1})
}

func TestGotAndSent(t *testing.T) {
	for b := range eachBeat {
		for _, now := range times {
			got, sent := as(b), as(b)
			if now > b.In {
				got.In = time(now)
			}
			if now > b.Out {
				sent.Out = time(now)
			}
			holds(t, "Got", now, beat.Got(b, now), got)
			holds(t, "Sent", now, beat.Sent(b, now), sent)
		}
	}
}

func TestGotAndSentWrittenOut(t *testing.T) {
	b := api.Beat{Every: 10, In: 100, Out: 200}
	for _, x := range []struct{ now, in, out int }{
		{99, 100, 200}, {100, 100, 200}, {101, 101, 200},
		{199, 199, 200}, {200, 200, 200}, {201, 201, 201},
		{0, 100, 200}, {-1, 100, 200}, {math.MinInt, 100, 200},
		{end - 1, end - 1, end - 1}, {end, end, end}, {end + 1, end, end}, {math.MaxInt, end, end},
	} {
		holds(t, "Got", x.now, beat.Got(b, x.now), api.Beat{Every: 10, In: x.in, Out: 200})
		holds(t, "Sent", x.now, beat.Sent(b, x.now), api.Beat{Every: 10, In: 100, Out: x.out})
	}
	// Each number is told as it counts, whether it is later or not.
	wild := api.Beat{Every: 65536, In: -1, Out: end + 1}
	holds(t, "Got", -1, beat.Got(wild, -1), api.Beat{Every: 65535, Out: end})
	holds(t, "Got", 1, beat.Got(wild, 1), api.Beat{Every: 65535, In: 1, Out: end})
	holds(t, "Sent", -1, beat.Sent(wild, -1), api.Beat{Every: 65535, Out: end})
	holds(t, "Sent", end+2, beat.Sent(wild, end+2), api.Beat{Every: 65535, Out: end})
	holds(t, "Got", 5, beat.Got(api.Beat{Every: -1, In: end + 1, Out: -1}, 5), api.Beat{In: end})
	holds(t, "Sent", 5, beat.Sent(api.Beat{Every: -1, In: end + 1, Out: -1}, 5), api.Beat{In: end, Out: 5})
}

func TestTick(t *testing.T) {
	for b := range eachBeat {
		for _, now := range times {
			k := as(b)
			send := k.Every > 0 && time(now)-k.Out >= k.Every
			gone := k.Every > 0 && time(now)-k.In >= k.Every+k.Every
			if send {
				k.Out = time(now)
			}
			ticks(t, b, now, k, send, gone)
		}
	}
}

// TestTickAtEdges (P12.2): one before, at, and one behind the times at which a beat is sent, and the other side is gone.
func TestTickAtEdges(t *testing.T) {
	for _, every := range []int{1, 2, 3, 60, 65534, 65535} {
		for _, from := range []int{0, 1, 1000, end - 131071} {
			b := api.Beat{Every: every, In: from, Out: from}
			to := func(now int) api.Beat { return api.Beat{Every: every, In: from, Out: now} }
			send, gone := from+every, from+2*every
			ticks(t, b, send-1, b, false, false)
			ticks(t, b, send, to(send), true, false)
			ticks(t, b, send+1, to(send+1), true, every == 1)
			b = to(gone) // nothing is to be sent about that time
			ticks(t, b, gone-1, b, false, false)
			ticks(t, b, gone, b, false, true)
			ticks(t, b, gone+1, to(gone+number(every == 1)), every == 1, true)
		}
	}
}

// number is 1 if it is so.
func number(is bool) int {
	if is {
		return 1
	}
	return 0
}

func TestTickWrittenOut(t *testing.T) {
	b := api.Beat{Every: 10, In: 100, Out: 100}
	ticks(t, b, 99, b, false, false)
	ticks(t, b, 100, b, false, false)
	ticks(t, b, 109, b, false, false)
	ticks(t, b, 110, api.Beat{Every: 10, In: 100, Out: 110}, true, false)
	ticks(t, b, 119, api.Beat{Every: 10, In: 100, Out: 119}, true, false)
	ticks(t, b, 120, api.Beat{Every: 10, In: 100, Out: 120}, true, true)
	ticks(t, b, 121, api.Beat{Every: 10, In: 100, Out: 121}, true, true)
	ticks(t, b, -1, b, false, false)
	ticks(t, b, math.MaxInt, api.Beat{Every: 10, In: 100, Out: end}, true, true)
	ticks(t, api.Beat{Every: 10, In: 100, Out: 111}, 120, api.Beat{Every: 10, In: 100, Out: 111}, false, true)
	ticks(t, api.Beat{Every: 10, In: 101, Out: 110}, 120, api.Beat{Every: 10, In: 101, Out: 120}, true, false)
	// Without beats nothing is sent, and nobody is gone.
	ticks(t, api.Beat{In: 5, Out: 5}, 1000, api.Beat{In: 5, Out: 5}, false, false)
	ticks(t, api.Beat{Every: -1, In: 5, Out: -5}, 1000, api.Beat{In: 5}, false, false)
	ticks(t, api.Beat{}, math.MaxInt, api.Beat{}, false, false)
	ticks(t, api.Beat{Every: math.MinInt, In: end + 1, Out: end + 1}, 0, api.Beat{In: end, Out: end}, false, false)
	// Numbers are told as they count.
	ticks(t, api.Beat{Every: 65536, In: -1, Out: -1}, 65534, api.Beat{Every: 65535}, false, false)
	ticks(t, api.Beat{Every: 65536, In: -1, Out: -1}, 65535, api.Beat{Every: 65535, Out: 65535}, true, false)
	ticks(t, api.Beat{Every: 65536, In: -1, Out: 131070}, 131070, api.Beat{Every: 65535, Out: 131070}, false, true)
	// Only the times count up to 2^40: what is due behind that never comes.
	ticks(t, api.Beat{Every: 1, In: end, Out: end}, math.MaxInt, api.Beat{Every: 1, In: end, Out: end}, false, false)
	ticks(t, api.Beat{Every: 1, In: end - 1, Out: end - 1}, end+1, api.Beat{Every: 1, In: end - 1, Out: end}, true, false)
	ticks(t, api.Beat{Every: 1, In: end - 2, Out: end}, end+1, api.Beat{Every: 1, In: end - 2, Out: end}, false, true)
}

func TestWhen(t *testing.T) {
	for b := range eachBeat {
		k := as(b)
		switch send, gone := k.Out+k.Every, k.In+k.Every+k.Every; {
		case k.Every == 0:
			falls(t, b, 0, false)
		case send < gone:
			falls(t, b, send, true)
		default:
			falls(t, b, gone, true)
		}
	}
}

func TestWhenWrittenOut(t *testing.T) {
	for _, x := range []struct {
		b  api.Beat
		at int
		is bool
	}{
		{api.Beat{Every: 10, In: 100, Out: 100}, 110, true},
		{api.Beat{Every: 10, In: 100, Out: 109}, 119, true},
		{api.Beat{Every: 10, In: 100, Out: 110}, 120, true}, // both at one time
		{api.Beat{Every: 10, In: 100, Out: 111}, 120, true},
		{api.Beat{Every: 10, In: 121, Out: 120}, 130, true},
		{api.Beat{Every: 10}, 10, true},
		{api.Beat{Every: 1, In: 7, Out: 7}, 8, true},
		{api.Beat{}, 0, false},
		{api.Beat{In: 5, Out: 5}, 0, false},
		{api.Beat{Every: -1, In: 5, Out: 5}, 0, false},
		{api.Beat{Every: 65536, In: -1, Out: -1}, 65535, true},
		{api.Beat{Every: 65535, Out: 65536}, 131070, true},
		{api.Beat{Every: 1, In: end, Out: end}, end + 1, true}, // sums are no times of beats: none of them is cut
		{api.Beat{Every: 65535, In: end + 1, Out: end + 1}, end + 65535, true},
		{api.Beat{Every: math.MaxInt, In: math.MaxInt, Out: math.MaxInt}, end + 65535, true},
		{api.Beat{Every: 65535, In: end - 65535, Out: end}, end + 65535, true},
		{api.Beat{Every: 65535, In: end - 65536, Out: end}, end + 65534, true},
	} {
		falls(t, x.b, x.at, x.is)
	}
}

// TestWhenTells (P12.2): ahead of When nothing is to be done, and at it something is.
func TestWhenTells(t *testing.T) {
	for b := range eachBeat {
		at, is := beat.When(b)
		if !is || at > end {
			ticks(t, b, end, as(b), false, false)
			continue
		}
		ticks(t, b, at-1, as(b), false, false)
		if _, send, gone := beat.Tick(b, at); !send && !gone {
			t.Errorf("Tick(%+v, %d): nothing is to be done", b, at)
		}
	}
}

// P12.3

// TestBytesOftenEnough (P12.3): with bytes ahead of twice Every nobody is gone, and with ticks when they are due there is a beat each Every.
func TestBytesOftenEnough(t *testing.T) {
	for _, every := range []int{1, 2, 3, 10, 60, 65535} {
		for _, gap := range []int{1, every, 2*every - 1} {
			from := 1000
			b, last, bytes := beat.New(every, from), from, from
			for range 300 {
				at, is := beat.When(b)
				if !is {
					t.Fatalf("%+v: nothing is due", b)
				}
				for bytes+gap <= at {
					bytes += gap
					b = beat.Got(b, bytes)
				}
				if at > last+every {
					t.Fatalf("every %d, gap %d: no beat within %d and %d", every, gap, last, at)
				}
				k, send, gone := beat.Tick(b, at)
				if gone {
					t.Fatalf("every %d, gap %d: gone at %d", every, gap, at)
				}
				if send {
					last = at
				}
				b = k
			}
			if last < from+every*100 {
				t.Errorf("every %d, gap %d: the last beat is at %d", every, gap, last)
			}
		}
	}
}

// TestBytesTooSeldom (P12.3): the other way round: at twice Every, and no earlier, the other side is gone.
func TestBytesTooSeldom(t *testing.T) {
	for _, every := range []int{1, 2, 3, 10, 60} {
		b := beat.New(every, 1000)
		for now := 1000; now < 1000+5*every; now++ {
			k, send, gone := beat.Tick(b, now)
			if gone != (now >= 1000+2*every) || send != (now > 1000 && (now-1000)%every == 0) {
				t.Errorf("every %d at %d: %v, %v", every, now, send, gone)
			}
			b = k
		}
	}
}

// TestBeatsAlone (P12.3): two sides that send nothing but beats, and tick at least once each Every, hold each other.
func TestBeatsAlone(t *testing.T) {
	for every := 1; every <= 7; every++ {
		for apart := 1; apart <= every; apart++ {
			for shift := range apart {
				sides := [2]api.Beat{beat.New(every, 50), beat.New(every, 50)}
				starts := [2]int{50, 50 + shift}
				for now := 50; now < 50+20*every; now++ {
					for i := range sides {
						if now < starts[i] || (now-starts[i])%apart != 0 {
							continue
						}
						k, send, gone := beat.Tick(sides[i], now)
						if gone {
							t.Fatalf("every %d, ticks %d apart: gone at %d", every, apart, now)
						}
						if sides[i] = k; send {
							sides[1-i] = beat.Got(sides[1-i], now)
						}
					}
				}
			}
		}
	}
}

// TestSentSpares (P12.3): bytes that are sent do for a beat, and within each Every either goes out.
func TestSentSpares(t *testing.T) {
	for _, every := range []int{1, 2, 5, 10} {
		for gap := 1; gap <= 2*every; gap++ {
			b, last, beats := beat.New(every, 0), 0, 0
			for now := 1; now < 40*every; now++ {
				if now%gap == 0 {
					b, last = beat.Sent(b, now), now
				}
				k, send, _ := beat.Tick(b, now)
				if b = k; send {
					last, beats = now, beats+1
				}
				if now-last >= every {
					t.Fatalf("every %d: nothing within %d and %d", every, last, now)
				}
			}
			if (beats == 0) != (gap <= every) {
				t.Errorf("every %d, bytes each %d: %d beats", every, gap, beats)
			}
		}
	}
}
