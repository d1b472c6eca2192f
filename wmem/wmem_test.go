package wmem

import (
	"math"
	"math/rand/v2"
	"slices"
	"testing"

	"hatstand/api"
)

const last = 1<<64 - 1

// memory is a memory of words that may be.
func memory(t *testing.T, words ...uint64) *Mem {
	t.Helper()
	m, e := New(words)
	if m == nil || e != api.OK {
		t.Fatalf("New of %d words tells %v, %d", len(words), m, e)
	}
	return m
}

// same fails if a memory's words or accesses are not those.
func same(t *testing.T, m *Mem, words []uint64, accesses []Access) {
	t.Helper()
	if got := m.Words(); !slices.Equal(got, words) || m.Len() != len(words) {
		t.Fatalf("words are %v, %d of them, not %v", got, m.Len(), words)
	}
	if got := m.Since(0); !slices.Equal(got, accesses) || m.Count() != len(accesses) {
		t.Fatalf("accesses are %v, %d of them, not %v", got, m.Count(), accesses)
	}
}

// noPlaces are numbers that are no place in a memory of so many words.
func noPlaces(words int) []int {
	return []int{words, words + 1, -1, -words, -words - 1, 1 << 32, 1<<32 + 1, -1 << 32, 1 << 62, math.MaxInt, math.MinInt}
}

func TestB1New(t *testing.T) {
	for _, n := range []int{0, 1, 2, 7, 1023, 1024} {
		words := make([]uint64, n)
		for i := range words {
			words[i] = last - uint64(i)*3
		}
		m := memory(t, words...)
		same(t, m, words, nil)
		for i, w := range words {
			if got, e := m.Load(i); got != w || e != api.OK {
				t.Fatalf("of %d words, the one at %d is %d, %d, not %d", n, i, got, e, w)
			}
		}
	}
	for _, n := range []int{1025, 1026, 2048, 1 << 16} {
		if m, e := New(make([]uint64, n)); m != nil || e != api.ErrArg {
			t.Errorf("New of %d words tells %v, %d", n, m, e)
		}
	}
	same(t, memory(t), nil, nil)
}

func TestB1WordsAsTheyAre(t *testing.T) {
	m := memory(t, 4, 5, 6)
	m.Store(1, 50)
	m.Swap(2, 6, 60)
	m.Swap(0, 6, 60)
	if got := m.Words(); !slices.Equal(got, []uint64{4, 50, 60}) {
		t.Error(got)
	}
	if m.Len() != 3 || m.Count() != 3 {
		t.Errorf("%d words, %d accesses: to ask for words is no access", m.Len(), m.Count())
	}
}

func TestB2Example(t *testing.T) {
	m := memory(t, 7)
	if ok, e := m.Swap(0, 7, 9); !ok || e != api.OK {
		t.Error(ok, e)
	}
	if ok, e := m.Swap(0, 7, 8); ok || e != api.OK {
		t.Error(ok, e)
	}
	if w, e := m.Load(0); w != 9 || e != api.OK {
		t.Error(w, e)
	}
	same(t, m, []uint64{9}, []Access{{'c', 0, 7, 9, true}, {'c', 0, 9, 9, false}, {'l', 0, 9, 9, true}})
}

func TestB2LoadAndStore(t *testing.T) {
	m := memory(t, 1, 2, 3)
	for _, w := range []uint64{0, 1, 77, 1 << 32, 1 << 63, last} {
		for at := range 3 {
			before := m.Words()
			if e := m.Store(at, w); e != api.OK {
				t.Fatalf("Store(%d, %d) tells %d", at, w, e)
			}
			before[at] = w
			if got, e := m.Load(at); got != w || e != api.OK {
				t.Fatalf("Load(%d) behind a Store of %d tells %d, %d", at, w, got, e)
			}
			if got := m.Words(); !slices.Equal(got, before) {
				t.Fatalf("Store(%d, %d) left %v, not %v", at, w, got, before)
			}
		}
	}
}

func TestB2Swap(t *testing.T) {
	for _, c := range []struct {
		at       int
		old, new uint64
		ok       bool
		want     []uint64
	}{
		{0, 7, 9, true, []uint64{9, 0, last}},
		{0, 8, 9, false, []uint64{7, 0, last}},
		{0, 9, 7, false, []uint64{7, 0, last}},
		{0, 7, 7, true, []uint64{7, 0, last}},
		{0, 9, 9, false, []uint64{7, 0, last}},
		{0, 7 + 1<<32, 9, false, []uint64{7, 0, last}},
		{1, 0, last, true, []uint64{7, last, last}},
		{1, 7, 1, false, []uint64{7, 0, last}},
		{2, last, 0, true, []uint64{7, 0, 0}},
		{2, 0, last, false, []uint64{7, 0, last}},
		{2, last >> 1, 5, false, []uint64{7, 0, last}},
	} {
		m := memory(t, 7, 0, last)
		if ok, e := m.Swap(c.at, c.old, c.new); ok != c.ok || e != api.OK {
			t.Errorf("Swap(%d, %d, %d) tells %v, %d", c.at, c.old, c.new, ok, e)
		}
		if got := m.Words(); !slices.Equal(got, c.want) {
			t.Errorf("Swap(%d, %d, %d) left %v, not %v", c.at, c.old, c.new, got, c.want)
		}
	}
}

func TestB2NoSuchPlace(t *testing.T) {
	for _, words := range [][]uint64{nil, {7}, {7, 8, 0}, make([]uint64, 1024)} {
		m := memory(t, words...)
		var noted []Access
		if len(words) > 0 {
			m.Load(0)
			noted = append(noted, Access{'l', 0, words[0], words[0], true})
		}
		for _, at := range noPlaces(len(words)) {
			if w, e := m.Load(at); w != 0 || e != api.ErrRange {
				t.Errorf("Load(%d) of %d words tells %d, %d", at, len(words), w, e)
			}
			if e := m.Store(at, 5); e != api.ErrRange {
				t.Errorf("Store(%d) of %d words tells %d", at, len(words), e)
			}
			for _, old := range []uint64{0, 7} {
				if ok, e := m.Swap(at, old, 5); ok || e != api.ErrRange {
					t.Errorf("Swap(%d) of %d words tells %v, %d", at, len(words), ok, e)
				}
			}
			same(t, m, words, noted)
		}
	}
}

func TestB3Kinds(t *testing.T) {
	if Load != 'l' || Store != 's' || Swap != 'c' {
		t.Error(Load, Store, Swap)
	}
	m := memory(t, 7, 8)
	m.Load(1)
	m.Store(1, 5)
	m.Store(0, 7)
	m.Swap(1, 8, 6)
	m.Swap(1, 5, 6)
	m.Swap(0, 7, 7)
	m.Load(2)
	m.Load(1)
	same(t, m, []uint64{7, 6}, []Access{
		{Load, 1, 8, 8, true},
		{Store, 1, 8, 5, true},
		{Store, 0, 7, 7, true},
		{Swap, 1, 5, 5, false},
		{Swap, 1, 5, 6, true},
		{Swap, 0, 7, 7, true},
		{Load, 1, 6, 6, true},
	})
}

func TestB3SinceAndCount(t *testing.T) {
	m := memory(t, 0)
	all := []Access{}
	for i := range uint64(50) {
		if m.Count() != int(i) {
			t.Fatalf("%d accesses, not %d", m.Count(), i)
		}
		m.Store(0, i+1)
		all = append(all, Access{Store, 0, i, i + 1, true})
	}
	for n := -3; n <= 53; n++ {
		want := all[min(max(n, 0), 50):]
		if got := m.Since(n); !slices.Equal(got, want) {
			t.Errorf("Since(%d) is %v, not %v", n, got, want)
		}
	}
	for _, n := range []int{math.MinInt, -1 << 32, -51, -50, -1} {
		if got := m.Since(n); !slices.Equal(got, all) {
			t.Errorf("Since(%d) is %v, not all", n, got)
		}
	}
	for _, n := range []int{50, 51, 1 << 32, math.MaxInt} {
		if got := m.Since(n); len(got) != 0 {
			t.Errorf("Since(%d) is %v, not none", n, got)
		}
	}
	if got := m.Since(49); !slices.Equal(got, all[49:]) || m.Count() != 50 {
		t.Error(got, m.Count())
	}
}

func TestB3NothingYet(t *testing.T) {
	m := memory(t, 7)
	for _, n := range []int{math.MinInt, -1, 0, 1, math.MaxInt} {
		if got := m.Since(n); len(got) != 0 || m.Count() != 0 {
			t.Errorf("Since(%d) is %v of %d", n, got, m.Count())
		}
	}
}

// play does so many accesses, drawn from a seed, at places of which some are none, and tells what each of them answered as a Load would.
func play(m *Mem, seed uint64, steps int) []Access {
	r := rand.New(rand.NewPCG(seed, 1))
	var answers []Access
	for range steps {
		at := r.IntN(m.Len()+2) - 1
		old, new := r.Uint64N(3), r.Uint64N(3)
		switch r.IntN(3) {
		case 0:
			w, e := m.Load(at)
			answers = append(answers, Access{Kind: Load, At: at, New: w, OK: e == api.OK})
		case 1:
			e := m.Store(at, new)
			answers = append(answers, Access{Kind: Store, At: at, New: new, OK: e == api.OK})
		case 2:
			ok, _ := m.Swap(at, old, new)
			answers = append(answers, Access{Kind: Swap, At: at, Old: old, New: new, OK: ok})
		}
	}
	return answers
}

func TestB4AccessesLeadToWords(t *testing.T) {
	for seed := range uint64(50) {
		first := []uint64{0, 1, 2, 0}[:seed%5]
		m := memory(t, first...)
		play(m, seed, 200)
		words := slices.Clone(first)
		for i, a := range m.Since(0) {
			if words[a.At] != a.Old {
				t.Fatalf("seed %d: access %d is %v, where %d was", seed, i, a, words[a.At])
			}
			if changes := a.Kind == Store || a.Kind == Swap && a.OK; !changes && a.Old != a.New {
				t.Fatalf("seed %d: access %d is %v", seed, i, a)
			}
			words[a.At] = a.New
		}
		if got := m.Words(); !slices.Equal(got, words) {
			t.Fatalf("seed %d: words are %v, but accesses lead to %v", seed, got, words)
		}
	}
}

// TestB4LoadTellsWhatWasLeft goes by the answers alone, not by the notes.
func TestB4LoadTellsWhatWasLeft(t *testing.T) {
	for seed := range uint64(50) {
		m := memory(t, 0, 1, 2)
		words := []uint64{0, 1, 2}
		count := 0
		for i, a := range play(m, seed, 200) {
			if a.At < 0 || a.At >= 3 {
				if a.OK {
					t.Fatalf("seed %d: call %d, %v, is told OK", seed, i, a)
				}
				continue
			}
			count++
			switch {
			case a.Kind == Load && (a.New != words[a.At] || !a.OK):
				t.Fatalf("seed %d: call %d, %v, found another word than %d", seed, i, a, words[a.At])
			case a.Kind == Swap && a.OK != (words[a.At] == a.Old):
				t.Fatalf("seed %d: call %d, %v, where %d was", seed, i, a, words[a.At])
			case a.OK:
				words[a.At] = a.New
			}
		}
		if m.Count() != count || !slices.Equal(m.Words(), words) {
			t.Fatalf("seed %d: %d accesses, words %v, not %d, %v", seed, m.Count(), m.Words(), count, words)
		}
	}
}

func TestP2P3NothingIsShared(t *testing.T) {
	room := []uint64{7, 8, 9, 10}
	given := room[:2]
	m := memory(t, given...)
	given[0] = 99
	m.Store(1, 5)
	if !slices.Equal(room, []uint64{99, 8, 9, 10}) {
		t.Errorf("what was handed in is %v", room)
	}
	words, accesses := m.Words(), m.Since(0)
	words[0], accesses[0].New = 1, 1
	_ = append(words, 2)
	_ = append(accesses, Access{At: 4})
	m.Load(0)
	same(t, m, []uint64{7, 5}, []Access{{Store, 1, 8, 5, true}, {Load, 0, 7, 7, true}})
	if accesses[0] != (Access{Store, 1, 8, 1, true}) || len(accesses) != 1 || words[1] != 5 {
		t.Error("an answer has changed", accesses, words)
	}
}

func TestP3P4MemoriesAreApart(t *testing.T) {
	given := []uint64{7, 8}
	a, _ := New(given)
	b, _ := New(given)
	a.Store(0, 1)
	same(t, b, []uint64{7, 8}, nil)
	b.Swap(1, 8, 2)
	same(t, a, []uint64{1, 8}, []Access{{Store, 0, 7, 1, true}})
	x, y := memory(t, 0, 1, 2), memory(t, 0, 1, 2)
	if !slices.Equal(play(x, 9, 300), play(y, 9, 300)) || !slices.Equal(x.Since(0), y.Since(0)) {
		t.Error("the same calls of the same memory told different answers")
	}
}
