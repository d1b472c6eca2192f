package lifo

import (
	"math"
	"math/rand/v2"
	"slices"
	"testing"

	"hatstand/api"
)

const last = 1<<64 - 1

// statuses are all that api names, and some that it does not.
func statuses() []api.Status {
	return []api.Status{api.Running, api.Done, api.None, api.Contended, api.Timeout, api.Broken, api.Retry, api.Refused, 8, -1, 257, 1 << 32, 1<<32 + 1, 1<<32 + 6, math.MaxInt, math.MinInt}
}

func words(v ...uint64) []uint64 { return v }

func ops(o ...Op) []Op { return o }

func pushed(v uint64, status api.Status) Op { return Op{Push: true, V: v, Status: status} }

func popped(v uint64, status api.Status) Op { return Op{V: v, Status: status} }

// pattern is a stack of n words, no two of them the same, and none 0.
func pattern(n int) []uint64 {
	s := make([]uint64, n)
	for i := range s {
		s[i] = uint64(i)*7 + 3
	}
	return s
}

// handed is the list with words behind its length; kept tells whether those, and the list, are as they were.
func handed(s []uint64) (given []uint64, kept func() bool) {
	all := append(slices.Clone(s), 101, 102, 103)
	was := slices.Clone(all)
	return all[:len(s)], func() bool { return slices.Equal(all, was) }
}

// scribble writes over a list that was answered, and behind its length.
func scribble(s []uint64) {
	s = s[:cap(s)]
	for i := range s {
		s[i] = 0xdead
	}
}

func checkPush(t *testing.T, s []uint64, most int, v uint64, want []uint64, status api.Status) {
	t.Helper()
	given, kept := handed(s)
	got, told := Push(given, most, v)
	if !slices.Equal(got, want) || told != status {
		t.Errorf("Push(%v, %d, %d) is %v, %d, not %v, %d", s, most, v, got, told, want, status)
	}
	if scribble(got); !kept() {
		t.Errorf("Push(%v, %d, %d) writes into what it was handed, or hands it out", s, most, v)
	}
}

func checkPop(t *testing.T, s, want []uint64, v uint64, status api.Status) {
	t.Helper()
	given, kept := handed(s)
	got, top, told := Pop(given)
	if !slices.Equal(got, want) || top != v || told != status {
		t.Errorf("Pop(%v) is %v, %d, %d, not %v, %d, %d", s, got, top, told, want, v, status)
	}
	if scribble(got); !kept() {
		t.Errorf("Pop(%v) writes into what it was handed, or hands it out", s)
	}
}

// checkDo wants that the stack may answer so, and what is left then.
func checkDo(t *testing.T, s []uint64, most int, o Op, want []uint64) {
	t.Helper()
	given, kept := handed(s)
	got, ok := Do(given, most, o)
	if !ok || !slices.Equal(got, want) {
		t.Errorf("Do(%v, %d, %v) is %v, %t, not %v", s, most, o, got, ok, want)
	}
	if scribble(got); !kept() {
		t.Errorf("Do(%v, %d, %v) writes into what it was handed, or hands it out", s, most, o)
	}
}

// checkNot wants that the stack may not answer so.
func checkNot(t *testing.T, s []uint64, most int, o Op) {
	t.Helper()
	given, kept := handed(s)
	if got, ok := Do(given, most, o); ok || len(got) != 0 {
		t.Errorf("Do(%v, %d, %v) is %v, %t, and it may not be", s, most, o, got, ok)
	}
	if !kept() {
		t.Errorf("Do(%v, %d, %v) writes into what it was handed", s, most, o)
	}
}

func checkRun(t *testing.T, s []uint64, most int, l []Op, want []uint64, n int) {
	t.Helper()
	given, kept := handed(s)
	list := append(slices.Clone(l), pushed(77, api.Done), popped(77, api.Done))
	was := slices.Clone(list)
	got, count := Run(given, most, list[:len(l)])
	if !slices.Equal(got, want) || count != n {
		t.Errorf("Run(%v, %d, %v) is %v, %d, not %v, %d", s, most, l, got, count, want, n)
	}
	if scribble(got); !kept() || !slices.Equal(list, was) {
		t.Errorf("Run(%v, %d, %v) writes into what it was handed, or hands it out", s, most, l)
	}
}

func TestE1Push(t *testing.T) {
	checkPush(t, nil, 1, 7, words(7), api.Done)
	checkPush(t, words(), 1, 7, words(7), api.Done)
	checkPush(t, words(1, 2), 4, 7, words(1, 2, 7), api.Done)
	checkPush(t, words(1, 2), 4, 2, words(1, 2, 2), api.Done)
	for _, v := range words(0, 1, 1<<31, 1<<32-1, 1<<32, 1<<63-1, 1<<63, last) {
		checkPush(t, nil, 1, v, words(v), api.Done)
		checkPush(t, words(v, 0), 3, v, words(v, 0, v), api.Done)
		checkPush(t, words(v, 0), 2, v, words(v, 0), api.None)
	}
}

func TestE1PushAtItsBound(t *testing.T) {
	for n := range 70 {
		s := pattern(n)
		more := append(slices.Clone(s), 9)
		for _, most := range []int{n + 1, n + 2, 1 << 32, 1<<32 + n, math.MaxInt} {
			checkPush(t, s, most, 9, more, api.Done)
		}
		for _, most := range []int{n, n - 1, 0, -1, -n, -1 << 32, math.MinInt} {
			checkPush(t, s, most, 9, s, api.None)
		}
	}
}

func TestE1Pop(t *testing.T) {
	checkPop(t, nil, nil, 0, api.None)
	checkPop(t, words(), nil, 0, api.None)
	checkPop(t, words(0), nil, 0, api.Done)
	checkPop(t, words(0, 0), words(0), 0, api.Done)
	checkPop(t, words(5), nil, 5, api.Done)
	checkPop(t, words(1, 2, 3), words(1, 2), 3, api.Done)
	checkPop(t, words(3, 3, 3), words(3, 3), 3, api.Done)
	for _, v := range words(1<<31, 1<<32-1, 1<<32, 1<<63-1, 1<<63, last) {
		checkPop(t, words(v), nil, v, api.Done)
		checkPop(t, words(4, v), words(4), v, api.Done)
	}
	for n := 1; n < 70; n++ {
		s := pattern(n)
		checkPop(t, s, s[:n-1], s[n-1], api.Done)
	}
}

func TestE2DoneOfPush(t *testing.T) {
	checkDo(t, nil, 1, pushed(5, api.Done), words(5))
	checkDo(t, nil, 1, pushed(0, api.Done), words(0))
	checkDo(t, words(3), 2, pushed(last, api.Done), words(3, last))
	checkDo(t, words(3, 4), math.MaxInt, pushed(4, api.Done), words(3, 4, 4))
	checkNot(t, nil, 0, pushed(5, api.Done))
	checkNot(t, nil, -1, pushed(5, api.Done))
	checkNot(t, nil, math.MinInt, pushed(0, api.Done))
	checkNot(t, words(3), 1, pushed(5, api.Done))
	checkNot(t, words(3), 1, pushed(3, api.Done))
	checkNot(t, words(3), 1, pushed(0, api.Done))
	checkNot(t, words(3, 4), 1, pushed(5, api.Done))
	checkNot(t, words(3, 4), 0, pushed(5, api.Done))
}

func TestE2DoneOfPop(t *testing.T) {
	for _, most := range []int{math.MinInt, -1, 0, 1, 2, 3, 9, math.MaxInt} {
		checkDo(t, words(3), most, popped(3, api.Done), nil)
		checkDo(t, words(0), most, popped(0, api.Done), nil)
		checkDo(t, words(3, 4), most, popped(4, api.Done), words(3))
		checkNot(t, words(3, 4), most, popped(3, api.Done))
		checkNot(t, words(3, 4), most, popped(0, api.Done))
		checkNot(t, words(3, 4), most, popped(1<<32+4, api.Done))
		checkNot(t, words(3, 0), most, popped(3, api.Done))
		checkNot(t, nil, most, popped(0, api.Done))
		checkNot(t, nil, most, popped(3, api.Done))
	}
}

func TestE2NoneOfPush(t *testing.T) {
	for _, v := range words(0, 4, 5, last) {
		checkDo(t, nil, 0, pushed(v, api.None), nil)
		checkDo(t, nil, -1, pushed(v, api.None), nil)
		checkDo(t, nil, math.MinInt, pushed(v, api.None), nil)
		checkDo(t, words(3, 4), 2, pushed(v, api.None), words(3, 4))
		checkDo(t, words(3, 4), 1, pushed(v, api.None), words(3, 4))
		checkDo(t, words(3, 4), 0, pushed(v, api.None), words(3, 4))
		checkDo(t, words(3, 4), -2, pushed(v, api.None), words(3, 4))
		checkNot(t, nil, 1, pushed(v, api.None))
		checkNot(t, words(3, 4), 3, pushed(v, api.None))
		checkNot(t, words(3, 4), 4, pushed(v, api.None))
		checkNot(t, words(3, 4), math.MaxInt, pushed(v, api.None))
	}
}

func TestE2NoneOfPop(t *testing.T) {
	for _, most := range []int{math.MinInt, -1, 0, 1, 2, math.MaxInt} {
		checkDo(t, nil, most, popped(0, api.None), nil)
		checkDo(t, words(), most, popped(0, api.None), nil)
		for _, v := range words(1, 3, 1<<32, 1<<63, last) {
			checkNot(t, nil, most, popped(v, api.None))
			checkNot(t, words(3), most, popped(v, api.None))
		}
		checkNot(t, words(3), most, popped(0, api.None))
		checkNot(t, words(0), most, popped(0, api.None))
		checkNot(t, words(3, 0), most, popped(0, api.None))
	}
}

func TestE2RetryOfAny(t *testing.T) {
	for _, s := range [][]uint64{nil, words(), words(0), words(3), words(3, 4), pattern(40)} {
		for _, most := range []int{math.MinInt, -1, 0, 1, 2, 3, 40, 41, math.MaxInt} {
			for _, v := range words(0, 3, 4, 5, last) {
				checkDo(t, s, most, pushed(v, api.Retry), s)
				checkDo(t, s, most, popped(v, api.Retry), s)
			}
		}
	}
}

func TestE2AnyOtherStatusOfNone(t *testing.T) {
	for _, status := range statuses() {
		if status == api.Done || status == api.None || status == api.Retry {
			continue
		}
		for _, s := range [][]uint64{nil, words(0), words(3), words(3, 4)} {
			for _, most := range []int{math.MinInt, -1, 0, 1, 2, 3, math.MaxInt} {
				for _, v := range words(0, 3, 4, 5) {
					checkNot(t, s, most, pushed(v, status))
					checkNot(t, s, most, popped(v, status))
				}
			}
		}
	}
}

func TestE3Example(t *testing.T) {
	checkRun(t, nil, 1, ops(pushed(5, api.Done), pushed(6, api.None), popped(5, api.Done), popped(0, api.None)), nil, 4)
}

func TestE3NoAnswers(t *testing.T) {
	for _, most := range []int{math.MinInt, 0, 1, 3, math.MaxInt} {
		checkRun(t, nil, most, nil, nil, 0)
		checkRun(t, words(1, 2), most, nil, words(1, 2), 0)
		checkRun(t, words(1, 2), most, ops(), words(1, 2), 0)
	}
}

func TestE3All(t *testing.T) {
	checkRun(t, nil, 1, ops(pushed(5, api.Done)), words(5), 1)
	checkRun(t, words(1), 3, ops(pushed(5, api.Done), pushed(6, api.Done), pushed(7, api.None), pushed(7, api.Retry)), words(1, 5, 6), 4)
	checkRun(t, words(1, 2), 2, ops(popped(2, api.Done), pushed(3, api.Done), popped(9, api.Retry), popped(3, api.Done), popped(1, api.Done), popped(0, api.None), popped(0, api.None)), nil, 7)
	checkRun(t, words(1, 2, 3), 1, ops(pushed(4, api.None), popped(3, api.Done), pushed(4, api.None), popped(2, api.Done), pushed(4, api.None), popped(1, api.Done), pushed(4, api.Done), pushed(5, api.None)), words(4), 8)
	checkRun(t, words(1, 2), 0, ops(popped(2, api.Done), pushed(3, api.None), popped(1, api.Done), pushed(3, api.None)), nil, 4)
	checkRun(t, words(8), -1, ops(popped(8, api.Done), pushed(3, api.None), popped(0, api.None)), nil, 3)
}

// wrong are ops that no stack of these words, and of room for one more, may answer.
func wrong(s []uint64) []Op {
	l := ops(pushed(6, api.None), popped(last, api.Done), popped(5, api.None))
	for _, status := range statuses() {
		if status != api.Done && status != api.None && status != api.Retry {
			l = append(l, pushed(6, status), popped(0, status))
		}
	}
	if len(s) == 0 {
		return append(l, popped(0, api.Done))
	}
	return append(l, popped(0, api.None), popped(s[len(s)-1], api.None), popped(s[len(s)-1]+1, api.Done))
}

// TestE3FirstThatMayNotBe puts each wrong op at each place of a run that may be answered whole.
func TestE3FirstThatMayNotBe(t *testing.T) {
	l := ops(pushed(1, api.Done), pushed(2, api.Done), popped(7, api.Retry), popped(2, api.Done), pushed(3, api.Done), popped(3, api.Done), popped(1, api.Done), popped(0, api.None), pushed(4, api.Done))
	ahead := [][]uint64{nil, words(1), words(1, 2), words(1, 2), words(1), words(1, 3), words(1), nil, nil, words(4)}
	checkRun(t, nil, 9, l, ahead[len(l)], len(l))
	for place, s := range ahead {
		for _, o := range wrong(s) {
			checkRun(t, nil, 9, slices.Insert(slices.Clone(l), place, o), s, place)
		}
	}
}

func TestE3FirstThatFindsNoRoom(t *testing.T) {
	l := ops(pushed(1, api.Done), pushed(2, api.Done), pushed(3, api.Done))
	checkRun(t, nil, 3, l, words(1, 2, 3), 3)
	checkRun(t, nil, 2, l, words(1, 2), 2)
	checkRun(t, nil, 1, l, words(1), 1)
	checkRun(t, nil, 0, l, nil, 0)
	checkRun(t, nil, -3, l, nil, 0)
	checkRun(t, words(9), 3, l, words(9, 1, 2), 2)
	checkRun(t, words(8, 9), 1, l, words(8, 9), 0)
}

// TestE3WhatIsBehindIsNotDone: behind the first op that may not be, none is, and it is the first one that is told.
func TestE3WhatIsBehindIsNotDone(t *testing.T) {
	checkRun(t, words(3), 2, ops(popped(4, api.Done), popped(3, api.Done)), words(3), 0)
	checkRun(t, words(3), 2, ops(pushed(4, api.None), popped(9, api.Done), pushed(4, api.Done)), words(3), 0)
	checkRun(t, words(3), 2, ops(pushed(4, api.Done), popped(3, api.Done), popped(4, api.Done)), words(3, 4), 1)
	checkRun(t, words(3), 2, ops(popped(3, api.Done), popped(0, api.Done), popped(0, api.Running)), nil, 1)
}

// TestE3ManyAnswers: a run that copied its stack for each op would not end in time.
func TestE3ManyAnswers(t *testing.T) {
	const many = 1 << 19
	l := make([]Op, 0, 4*many)
	for i := range uint64(many) {
		l = append(l, pushed(i, api.Done))
	}
	for range many {
		l = append(l, pushed(5, api.None), popped(5, api.Retry))
	}
	for i := range uint64(many) {
		l = append(l, popped(many-1-i, api.Done))
	}
	if s, n := Run(nil, many, l); len(s) != 0 || n != len(l) {
		t.Errorf("%d words are left behind %d of %d", len(s), n, len(l))
	}
	l[len(l)-1].V++
	if s, n := Run(nil, many, l); !slices.Equal(s, words(0)) || n != len(l)-1 {
		t.Errorf("%d words are left behind %d of %d", len(s), n, len(l))
	}
}

func TestE4LastPushedIsFirstPopped(t *testing.T) {
	for n := range 40 {
		for below := range 4 {
			first := slices.Repeat(words(1000), below)
			s := first
			for v := range uint64(n) {
				next, status := Push(s, below+n, v)
				if status != api.Done {
					t.Fatalf("push %d of %d tells %d", v, n, status)
				}
				s = next
			}
			for i := range uint64(n) {
				next, v, status := Pop(s)
				if v != uint64(n)-1-i || status != api.Done {
					t.Fatalf("pop %d of %d tells %d, %d", i, n, v, status)
				}
				s = next
			}
			if !slices.Equal(s, first) {
				t.Fatalf("what is left below %d words is %v", n, s)
			}
		}
	}
}

// node is a word and what is below it: a stack that is made in another way.
type node struct {
	v     uint64
	below *node
	deep  int
}

func (n *node) depth() int {
	if n == nil {
		return 0
	}
	return n.deep
}

func (n *node) list() []uint64 {
	var l []uint64
	for ; n != nil; n = n.below {
		l = append(l, n.v)
	}
	slices.Reverse(l)
	return l
}

// after is what a stack that answers so becomes.
func (n *node) after(most int, o Op) (*node, bool) {
	switch {
	case o.Status == api.Retry:
		return n, true
	case o.Push && o.Status == api.Done && n.depth() < most:
		return &node{o.V, n, n.depth() + 1}, true
	case o.Push && o.Status == api.None && n.depth() >= most:
		return n, true
	case !o.Push && o.Status == api.Done && n != nil && n.v == o.V:
		return n.below, true
	case !o.Push && o.Status == api.None && n == nil && o.V == 0:
		return n, true
	}
	return nil, false
}

// drawn is an op that the stack may answer, most of the time.
func drawn(r *rand.Rand, n *node, most int) Op {
	o := Op{Push: r.IntN(2) == 0, V: r.Uint64N(4), Status: api.Done}
	if o.Push && n.depth() >= most {
		o.Status = api.None
	}
	if !o.Push && n == nil {
		o.V, o.Status = 0, api.None
	} else if !o.Push {
		o.V = n.v
	}
	switch r.IntN(40) {
	case 0:
		o.V = r.Uint64N(4)
	case 1:
		o.Status = api.Status(r.IntN(9) - 1)
	case 2, 3, 4:
		o.Status = api.Retry
	}
	return o
}

// TestE4AnyRuns holds drawn runs against a stack of nodes: Do op by op, and Run of all.
func TestE4AnyRuns(t *testing.T) {
	whole := 0
	for seed := range uint64(3000) {
		r := rand.New(rand.NewPCG(seed, 5))
		most := r.IntN(8) - 1
		var n *node
		for range r.IntN(8) {
			n = &node{r.Uint64N(4), n, n.depth() + 1}
		}
		bound := max(most, n.depth())
		first, l := n.list(), ops()
		end, may := n, true
		for range r.IntN(60) {
			o := drawn(r, end, most)
			l = append(l, o)
			if !may {
				continue
			}
			next, ok := end.after(most, o)
			if ok {
				checkDo(t, end.list(), most, o, next.list())
				end = next
			} else {
				checkNot(t, end.list(), most, o)
				may = false
				whole = len(l) - 1
			}
			if end.depth() > bound {
				t.Fatalf("seed %d: %d words, of at most %d", seed, end.depth(), bound)
			}
		}
		if may {
			whole = len(l)
		}
		checkRun(t, first, most, l, end.list(), whole)
		if t.Failed() {
			t.Fatalf("seed %d", seed)
		}
	}
}

// TestE4NoMoreThanMost: no run of pushes and pops makes a stack greater than its bound, or than it was.
func TestE4NoMoreThanMost(t *testing.T) {
	for first := range 6 {
		for most := -2; most < 6; most++ {
			s, bound := pattern(first), max(first, most)
			r := rand.New(rand.NewPCG(uint64(first), uint64(most+2)))
			for range 200 {
				had := len(s)
				if r.IntN(3) == 0 {
					s, _, _ = Pop(s)
				} else {
					s, _ = Push(s, most, r.Uint64())
				}
				if len(s) > bound || len(s) > had && len(s) > most {
					t.Fatalf("%d words, of at most %d; it had %d, and %d at first", len(s), most, had, first)
				}
			}
		}
	}
}

// TestP4AnswersAreApart: two answers of one list share nothing.
func TestP4AnswersAreApart(t *testing.T) {
	s := make([]uint64, 2, 9)
	a, _ := Push(s, 5, 1)
	b, _ := Push(s, 5, 2)
	c, _ := Push(s, 2, 3)
	d, _, _ := Pop(s)
	e, _ := Do(s, 5, popped(9, api.Retry))
	f, _ := Do(s, 5, pushed(4, api.Done))
	g, _ := Run(s, 5, nil)
	h, _ := Run(s, 5, ops(pushed(6, api.Done)))
	all := [][]uint64{a, b, c, d, e, f, g, h}
	want := [][]uint64{words(0, 0, 1), words(0, 0, 2), words(0, 0), words(0), words(0, 0), words(0, 0, 4), words(0, 0), words(0, 0, 6)}
	for i := range all {
		if !slices.Equal(all[i], want[i]) {
			t.Errorf("answer %d is %v, not %v", i, all[i], want[i])
		}
		scribble(all[i])
	}
	if !slices.Equal(s[:cap(s)], make([]uint64, 9)) {
		t.Error("an answer shares words with what was handed in")
	}
}
