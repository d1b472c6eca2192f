package source

import (
	"math"
	"math/rand/v2"
	"testing"

	"hatstand/api"
)

const last = 1<<64 - 1

// with is a source of those draws.
func with(t *testing.T, draws ...uint64) *Source {
	t.Helper()
	s := New()
	adds(t, s, draws...)
	return s
}

// adds fails if one of the draws is refused.
func adds(t *testing.T, s *Source, draws ...uint64) {
	t.Helper()
	for _, d := range draws {
		if e := s.Add(d); e != api.OK {
			t.Fatalf("Add(%d) tells %d", d, e)
		}
	}
}

// tells fails if the next draw, below n, is not that, or does not leave so many.
func tells(t *testing.T, s *Source, n, want, left int) {
	t.Helper()
	if got := s.Draw(n); got != want || s.Left() != left {
		t.Fatalf("Draw(%d) tells %d and leaves %d, not %d and %d", n, got, s.Left(), want, left)
	}
}

func TestD1New(t *testing.T) {
	s := New()
	if s == nil || s.Now() != 0 || s.Left() != 0 {
		t.Fatal("a new source has a time or draws")
	}
	tells(t, s, 1, 0, 0)
	tells(t, s, 64, 0, 0)
	if s.Now() != 0 {
		t.Error("time went by")
	}
}

func TestD1Tick(t *testing.T) {
	for _, c := range []struct{ first, n, now uint64 }{
		{0, 0, 0},
		{0, 1, 1},
		{5, 0, 5},
		{5, 7, 12},
		{1<<32 - 1, 1, 1 << 32},
		{1 << 62, 1 << 62, 1 << 63},
		{1<<63 - 1, 1, 1 << 63},
		{0, last, last},
		{last - 1, 0, last - 1},
		{last - 7, 6, last - 1},
		{last - 7, 7, last},
		{last - 7, 8, last},
		{1 << 63, 1<<63 - 1, last},
		{1 << 63, 1 << 63, last},
		{1 << 63, 1<<63 + 5, last},
		{1, last - 1, last},
		{1, last, last},
		{2, last, last},
		{last, 0, last},
		{last, 1, last},
		{last, 1 << 63, last},
		{last, last, last},
	} {
		s := New()
		if s.Tick(c.first); s.Now() != c.first {
			t.Fatalf("Tick(%d) of a new source comes to %d", c.first, s.Now())
		}
		if s.Tick(c.n); s.Now() != c.now || s.Now() != c.now {
			t.Errorf("Tick(%d) behind %d comes to %d, not %d", c.n, c.first, s.Now(), c.now)
		}
	}
}

func TestD1TicksAreAdded(t *testing.T) {
	s := New()
	for i := range uint64(100) {
		if s.Tick(i); s.Now() != i*(i+1)/2 {
			t.Fatalf("behind all ticks up to %d it is %d", i, s.Now())
		}
	}
}

func TestD1Deadline(t *testing.T) {
	for _, c := range []struct{ now, wait, want uint64 }{
		{0, 0, 0},
		{0, 9, 9},
		{9, 0, 9},
		{5, 7, 12},
		{1<<32 - 1, 1, 1 << 32},
		{1<<63 - 1, 1, 1 << 63},
		{0, last - 1, last - 1},
		{0, last, last},
		{1, last - 2, last - 1},
		{1, last - 1, last},
		{1, last, last},
		{12, last - 12, last},
		{12, last - 11, last},
		{1 << 63, 1<<63 - 1, last},
		{1 << 63, 1 << 63, last},
		{last, 1, last},
		{last, last, last},
	} {
		if got := Deadline(c.now, c.wait); got != c.want {
			t.Errorf("Deadline(%d, %d) is %d, not %d", c.now, c.wait, got, c.want)
		}
		if got := Deadline(c.wait, c.now); got != c.want {
			t.Errorf("Deadline(%d, %d) is %d, not %d", c.wait, c.now, got, c.want)
		}
	}
}

func TestD1TicksLeaveDraws(t *testing.T) {
	s := with(t, 7, 5)
	s.Tick(3)
	s.Tick(last)
	tells(t, s, 64, 7, 1)
	s.Tick(1)
	tells(t, s, 64, 5, 0)
}

func TestD2Example(t *testing.T) {
	s := with(t, 7)
	tells(t, s, 4, 3, 0)
	tells(t, s, 4, 0, 0)
}

func TestD2AddAll(t *testing.T) {
	s := New()
	for d := range uint64(64) {
		if e := s.Add(d); e != api.OK || s.Left() != int(d)+1 {
			t.Fatalf("Add(%d) tells %d, and %d are left", d, e, s.Left())
		}
	}
	for d := range 64 {
		tells(t, s, 64, d, 63-d)
	}
	tells(t, s, 64, 0, 0)
}

// tooGreat are numbers that are no draws; cut to fewer bits most of them would be.
func tooGreat() []uint64 {
	return []uint64{64, 65, 127, 128, 255, 256, 256 + 9, 1<<16 + 9, 1 << 31, 1 << 32, 1<<32 + 9, 1<<63 - 1, 1 << 63, 1<<63 + 9, last - 1, last}
}

func TestD2AddRefuses(t *testing.T) {
	for _, d := range tooGreat() {
		s := New()
		if e := s.Add(d); e != api.ErrArg || s.Left() != 0 || s.Now() != 0 {
			t.Errorf("Add(%d) tells %d; left: %d", d, e, s.Left())
		}
		tells(t, s, 64, 0, 0)
	}
	s := with(t, 7, 63)
	s.Tick(5)
	for _, d := range tooGreat() {
		if e := s.Add(d); e != api.ErrArg || s.Left() != 2 || s.Now() != 5 {
			t.Errorf("Add(%d) tells %d; left: %d, at %d", d, e, s.Left(), s.Now())
		}
	}
	adds(t, s, 9)
	for _, d := range tooGreat() {
		s.Add(d)
	}
	tells(t, s, 64, 7, 2)
	tells(t, s, 64, 63, 1)
	tells(t, s, 64, 9, 0)
	tells(t, s, 64, 0, 0)
}

func TestD2DrawRemainder(t *testing.T) {
	for _, c := range []struct {
		d       uint64
		n, want int
	}{
		{0, 1, 0}, {0, 2, 0}, {0, math.MaxInt, 0},
		{1, 1, 0}, {1, 2, 1}, {63, 1, 0}, {63, 2, 1},
		{7, 4, 3}, {7, 6, 1}, {7, 7, 0}, {7, 8, 7},
		{63, 16, 15}, {63, 10, 3}, {63, 62, 1}, {63, 63, 0}, {63, 64, 63}, {63, 65, 63},
		{63, 255, 63}, {63, 256, 63}, {63, 257, 63}, {63, 1 << 16, 63}, {63, 1 << 32, 63}, {63, 1<<32 + 1, 63}, {63, math.MaxInt - 1, 63}, {63, math.MaxInt, 63},
	} {
		s := with(t, c.d, 42)
		tells(t, s, c.n, c.want, 1)
		tells(t, s, 64, 42, 0)
	}
}

func TestD2DrawBelowOneTakesNone(t *testing.T) {
	none := []int{0, -1, -4, -64, -1 << 32, math.MinInt + 1, math.MinInt}
	s := with(t, 7, 5)
	for _, n := range none {
		tells(t, s, n, 0, 2)
	}
	tells(t, s, 64, 7, 1)
	for _, n := range none {
		tells(t, s, n, 0, 1)
	}
	tells(t, s, 64, 5, 0)
	for _, n := range none {
		tells(t, s, n, 0, 0)
	}
}

func TestD2DrawOfOneTakesOne(t *testing.T) {
	s := with(t, 7, 5, 9)
	tells(t, s, 1, 0, 2)
	tells(t, s, 1, 0, 1)
	tells(t, s, 64, 9, 0)
	tells(t, s, 1, 0, 0)
}

func TestD2DrawOfNone(t *testing.T) {
	s := with(t, 63)
	tells(t, s, math.MaxInt, 63, 0)
	for _, n := range []int{math.MinInt, -1, 0, 1, 2, 64, 1 << 32, math.MaxInt} {
		tells(t, s, n, 0, 0)
	}
	adds(t, s, 8)
	if s.Left() != 1 {
		t.Errorf("%d left: draws of none are owed", s.Left())
	}
	tells(t, s, 64, 8, 0)
}

func TestD3OrderWithSomeAddedBetween(t *testing.T) {
	s := with(t, 1, 2, 3)
	tells(t, s, 64, 1, 2)
	adds(t, s, 4, 5)
	tells(t, s, 64, 2, 3)
	tells(t, s, 64, 3, 2)
	adds(t, s, 6)
	tells(t, s, 64, 4, 2)
	tells(t, s, 64, 5, 1)
	tells(t, s, 64, 6, 0)
	adds(t, s, 7, 7, 8)
	tells(t, s, 64, 7, 2)
	tells(t, s, 64, 7, 1)
	tells(t, s, 64, 8, 0)
	tells(t, s, 64, 0, 0)
}

// TestD3OrderOfAnyNumber: for each number of draws, some are taken, others added, and the rest taken.
func TestD3OrderOfAnyNumber(t *testing.T) {
	const most = 40
	for first := range most {
		for taken := range first + 1 {
			for more := range 7 {
				s := New()
				for d := range first {
					adds(t, s, uint64(d))
				}
				for d := range taken {
					tells(t, s, 64, d, first-d-1)
				}
				for d := range more {
					adds(t, s, uint64(first+d))
				}
				for d := taken; d < first+more; d++ {
					tells(t, s, 64, d, first+more-d-1)
				}
				tells(t, s, 64, 0, 0)
			}
		}
	}
}

// TestD3AnyCalls holds a source against a list of all draws and a time whose end is looked for in another way.
func TestD3AnyCalls(t *testing.T) {
	for seed := range uint64(200) {
		r := rand.New(rand.NewPCG(seed, 4))
		s := New()
		var now uint64
		var draws []uint64
		for range 400 {
			before := s.Now()
			switch r.IntN(5) {
			case 0:
				n := r.Uint64() >> r.IntN(64)
				s.Tick(n)
				if n > last-now {
					now = last
				} else {
					now += n
				}
			case 1, 2:
				d := r.Uint64N(80)
				want := api.OK
				if d < 64 {
					draws = append(draws, d)
				} else {
					want = api.ErrArg
				}
				if e := s.Add(d); e != want {
					t.Fatalf("seed %d: Add(%d) tells %d", seed, d, e)
				}
			default:
				n := r.IntN(70) - 3
				want := 0
				if n >= 1 && len(draws) > 0 {
					want = int(draws[0] % uint64(n))
					draws = draws[1:]
				}
				tells(t, s, n, want, len(draws))
			}
			if s.Now() != now || s.Now() < before || s.Left() != len(draws) {
				t.Fatalf("seed %d: at %d, behind %d, %d left, not %d, %d", seed, s.Now(), before, s.Left(), now, len(draws))
			}
		}
	}
}

// TestD3ManyDraws: a source that moved all draws for each one would not end in time.
func TestD3ManyDraws(t *testing.T) {
	const many = 1 << 22
	s := New()
	for i := range uint64(many) {
		s.Add(i * 7 % 61)
	}
	for i := range uint64(many) {
		if got := s.Draw(64); got != int(i*7%61) {
			t.Fatalf("draw %d is %d", i, got)
		}
	}
	tells(t, s, 64, 0, 0)
}

// TestTakenDrawsAreNotKept: where draws are taken as fast as they are added, a source stays small.
func TestTakenDrawsAreNotKept(t *testing.T) {
	s := with(t, 1, 2, 3, 4, 5)
	for i := range uint64(10000) {
		adds(t, s, i%64)
		s.Draw(64)
		if len(s.draws) > 2*s.Left() {
			t.Fatalf("%d draws are kept, of which %d are left", len(s.draws), s.Left())
		}
	}
}

func TestP4SourcesAreApart(t *testing.T) {
	a, b := with(t, 1, 2), with(t, 3)
	a.Tick(5)
	tells(t, a, 64, 1, 1)
	if b.Now() != 0 || b.Left() != 1 {
		t.Errorf("another source is at %d, and has %d left", b.Now(), b.Left())
	}
	b.Tick(2)
	adds(t, b, 4)
	tells(t, b, 64, 3, 1)
	tells(t, a, 64, 2, 0)
	tells(t, b, 64, 4, 0)
	if a.Now() != 5 || b.Now() != 2 {
		t.Error(a.Now(), b.Now())
	}
}

func TestP4LookingChangesNothing(t *testing.T) {
	s := with(t, 9, 8)
	s.Tick(last - 1)
	for range 3 {
		if s.Now() != last-1 || s.Left() != 2 || Deadline(s.Now(), 5) != last {
			t.Fatal(s.Now(), s.Left())
		}
	}
	tells(t, s, 64, 9, 1)
}
