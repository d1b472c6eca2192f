package layout

import (
	"math"
	"math/rand/v2"
	"slices"
	"testing"

	"hatstand/api"
	"hatstand/pack"
)

const (
	lastIndex = 1<<32 - 1
	// tagged are upper bits that no list looks at.
	tagged = 0xfeedbeef << 32
)

func sized(nodes, slots, holders int) Config {
	return Config{Nodes: nodes, Slots: slots, Holders: holders}
}

// rightConfigs are all counts that may be, or only those near the bounds.
func rightConfigs(all bool) []Config {
	near := func(n, least, most int) bool {
		return all || n <= least+2 || n >= most-1 || n == most/2
	}
	var l []Config
	for n := 1; n <= 64; n++ {
		for s := 0; s <= 16; s++ {
			for h := 0; h <= 64; h++ {
				if near(n, 1, 64) && near(s, 0, 16) && near(h, 0, 64) {
					l = append(l, sized(n, s, h))
				}
			}
		}
	}
	return l
}

// beyond are numbers that lie below a least one, or above a greatest one, by one, and far.
func beyond(least, most int) []int {
	l := []int{
		least - 1, least - 2, least - 64, -1 << 31, -1 << 32, -1<<32 + 1, -1 << 62, math.MinInt, math.MinInt + 1,
		most + 1, most + 2, most + 64, 1 << 16, 1 << 31, 1 << 32, 1<<32 + 1, 1 << 62, 1<<62 + 1, 1 << 61, math.MaxInt, math.MaxInt - 1,
	}
	return slices.DeleteFunc(l, func(n int) bool { return n >= least && n <= most })
}

// wrongConfigs have one number, or some, that may not be.
func wrongConfigs() []Config {
	var l []Config
	for _, n := range beyond(1, 64) {
		l = append(l, sized(n, 0, 0), sized(n, 1, 1), sized(n, 16, 64), sized(n, 17, 3), sized(n, -1, -1))
	}
	for _, n := range beyond(0, 16) {
		l = append(l, sized(1, n, 0), sized(1, n, 1), sized(64, n, 64), sized(3, n, 65), sized(0, n, 3))
	}
	for _, n := range beyond(0, 64) {
		l = append(l, sized(1, 0, n), sized(1, 1, n), sized(64, 16, n), sized(3, -1, n), sized(65, 2, n))
	}
	for i := range l {
		l[i].Tag = uint32(i)
	}
	return append(l, Config{}, Config{Tag: lastIndex})
}

// noNodes are indexes that no node of a config of so many has.
func noNodes(nodes int) []uint32 {
	n := uint32(nodes)
	return []uint32{0, n + 1, n + 2, n + 64, 1<<16 + n, 1<<31 - 1, 1 << 31, 1<<31 + 1, 1<<31 + n, lastIndex - 1, lastIndex}
}

// noOnes are numbers that nothing has of which there are so many, counted from 0 on.
func noOnes(many int) []int { return beyond(0, many-1) }

// linked are words of a config: of each node the one of next, and 1000 and its index as its value; all else is of no list.
func linked(c Config, next ...uint32) []uint64 {
	words := make([]uint64, c.Cells())
	for at := range words {
		words[at] = 1<<40 + uint64(at)
	}
	for k, i := range next {
		words[c.Next(uint32(k+1))] = uint64(i)
		words[c.Value(uint32(k+1))] = 1000 + uint64(k+1)
	}
	return words
}

// ordered are words in which these nodes are a list, in that order.
func ordered(c Config, list []uint32) []uint64 {
	next := make([]uint32, c.Nodes)
	for k, i := range list[1:] {
		next[list[k]-1] = i
	}
	return linked(c, next...)
}

// handed is the list with words behind its length; kept tells whether those, and the list, are as they were.
func handed(words []uint64) (given []uint64, kept func() bool) {
	all := append(slices.Clone(words), 1, 2, 0, 0)
	was := slices.Clone(all)
	return all[:len(words)], func() bool { return slices.Equal(all, was) }
}

// checkChain wants that list; and of a stack that has it, its values.
func checkChain(t *testing.T, c Config, words []uint64, w uint64, want ...uint32) {
	t.Helper()
	given, kept := handed(words)
	if got, ok := Chain(c, given, w); !ok || !slices.Equal(got, want) {
		t.Errorf("%v, %v: Chain of %d is %v, %t, not %v", c, words, w, got, ok, want)
	}
	if !kept() {
		t.Errorf("%v, %v: Chain of %d writes into what it was handed", c, words, w)
	}
	var values []uint64
	for _, i := range slices.Backward(want) {
		values = append(values, words[c.Value(i)])
	}
	words = slices.Clone(words)
	words[0] = w
	checkStack(t, c, words, values...)
}

func checkStack(t *testing.T, c Config, words []uint64, want ...uint64) {
	t.Helper()
	given, kept := handed(words)
	got, ok := Stack(c, given)
	if !ok || !slices.Equal(got, want) {
		t.Errorf("%v, %v: Stack is %v, %t, not %v", c, words, got, ok, want)
	}
	for i := range got[:cap(got)] {
		got[:cap(got)][i] = 0xdead
	}
	if !kept() {
		t.Errorf("%v, %v: Stack writes into what it was handed, or hands it out", c, words)
	}
}

// checkNone wants that neither Chain of the word nor Stack, with it as its head, has anything to tell.
func checkNone(t *testing.T, c Config, words []uint64, w uint64) {
	t.Helper()
	given, kept := handed(words)
	if got, ok := Chain(c, given, w); ok || len(got) != 0 {
		t.Errorf("%v, %v: Chain of %d is %v, %t, and it is none", c, words, w, got, ok)
	}
	if !kept() {
		t.Errorf("%v, %v: Chain of %d writes into what it was handed", c, words, w)
	}
	if len(words) > 0 {
		words = slices.Clone(words)
		words[0] = w
	}
	given, kept = handed(words)
	if got, ok := Stack(c, given); ok || len(got) != 0 {
		t.Errorf("%v, %v: Stack is %v, %t, and it is none", c, words, got, ok)
	}
	if !kept() {
		t.Errorf("%v, %v: Stack writes into what it was handed", c, words)
	}
}

func TestF1Check(t *testing.T) {
	for _, c := range rightConfigs(true) {
		for _, tag := range []uint32{0, 7, 1 << 31, lastIndex} {
			c.Tag = tag
			if e := Check(c); e != api.OK {
				t.Fatalf("%v: %d", c, e)
			}
		}
	}
	for _, c := range wrongConfigs() {
		if e := Check(c); e != api.ErrArg {
			t.Errorf("%v: %d, not ErrArg", c, e)
		}
	}
}

// TestF1Example: nodes 2, slots 1.
func TestF1Example(t *testing.T) {
	c := Config{Nodes: 2, Slots: 1}
	got := []int{c.Next(2), c.Value(2), c.Slot(0), c.Cells()}
	if !slices.Equal(got, []int{4, 5, 6, 7}) {
		t.Error(got)
	}
}

func TestF1Places(t *testing.T) {
	for _, x := range []struct {
		c                                                           Config
		next1, value1, next, value, slot, slots, hold, holds, cells int
	}{
		{sized(1, 0, 0), 2, 3, 2, 3, -1, -1, -1, -1, 4},
		{sized(1, 1, 0), 2, 3, 2, 3, 4, 4, -1, -1, 5},
		{sized(1, 0, 1), 2, 3, 2, 3, -1, -1, 4, 4, 5},
		{sized(1, 1, 1), 2, 3, 2, 3, 4, 4, 5, 5, 6},
		{sized(3, 2, 4), 2, 3, 6, 7, 8, 9, 10, 13, 14},
		{sized(64, 0, 0), 2, 3, 128, 129, -1, -1, -1, -1, 130},
		{sized(64, 16, 0), 2, 3, 128, 129, 130, 145, -1, -1, 146},
		{sized(64, 0, 64), 2, 3, 128, 129, -1, -1, 130, 193, 194},
		{sized(64, 16, 64), 2, 3, 128, 129, 130, 145, 146, 209, 210},
		{sized(1, 16, 64), 2, 3, 2, 3, 4, 19, 20, 83, 84},
	} {
		c, last := x.c, uint32(x.c.Nodes)
		got := []int{c.Next(1), c.Value(1), c.Next(last), c.Value(last), c.Slot(0), c.Slot(c.Slots - 1), c.Holder(0), c.Holder(c.Holders - 1), c.Cells()}
		want := []int{x.next1, x.value1, x.next, x.value, x.slot, x.slots, x.hold, x.holds, x.cells}
		if !slices.Equal(got, want) {
			t.Errorf("%v: %v, not %v", c, got, want)
		}
	}
	if Head != 0 || Free != 1 {
		t.Error(Head, Free)
	}
}

func TestF1NoSuchPlace(t *testing.T) {
	for _, c := range rightConfigs(false) {
		for _, i := range noNodes(c.Nodes) {
			if c.Next(i) != -1 || c.Value(i) != -1 {
				t.Fatalf("%v: node %d is at %d, %d", c, i, c.Next(i), c.Value(i))
			}
		}
		for _, k := range noOnes(c.Slots) {
			if c.Slot(k) != -1 {
				t.Fatalf("%v: slot %d is at %d", c, k, c.Slot(k))
			}
		}
		for _, j := range noOnes(c.Holders) {
			if c.Holder(j) != -1 {
				t.Fatalf("%v: holder %d is at %d", c, j, c.Holder(j))
			}
		}
	}
}

func TestF1NoPlacesOfWrongConfigs(t *testing.T) {
	for _, c := range wrongConfigs() {
		if n := c.Cells(); n != 0 {
			t.Errorf("%v: %d cells", c, n)
		}
		for _, i := range append(noNodes(64), 1, 2, 3, 63, 64) {
			if c.Next(i) != -1 || c.Value(i) != -1 {
				t.Errorf("%v: node %d is at %d, %d", c, i, c.Next(i), c.Value(i))
			}
		}
		for _, k := range append(noOnes(0), 2, 3, 15, 16, 17, 63, 64, 65) {
			if c.Slot(k) != -1 || c.Holder(k) != -1 {
				t.Errorf("%v: slot and holder %d are at %d, %d", c, k, c.Slot(k), c.Holder(k))
			}
		}
	}
}

func TestF2Fresh(t *testing.T) {
	for _, x := range []struct {
		c    Config
		want []uint64
	}{
		{Config{Nodes: 1}, []uint64{0, 1, 0, 0}},
		{Config{Nodes: 1, Tag: 3}, []uint64{3 << 32, 3<<32 + 1, 0, 0}},
		{Config{Nodes: 2, Slots: 1}, []uint64{0, 1, 2, 0, 0, 0, 0}},
		{Config{Nodes: 2, Slots: 1, Tag: 1}, []uint64{1 << 32, 1<<32 + 1, 2, 0, 0, 0, 1 << 32}},
		{Config{Nodes: 1, Holders: 2, Tag: 1}, []uint64{1 << 32, 1<<32 + 1, 0, 0, 0, 0}},
		{Config{Nodes: 3, Slots: 2, Holders: 1, Tag: lastIndex}, []uint64{lastIndex << 32, lastIndex<<32 + 1, 2, 0, 3, 0, 0, 0, lastIndex << 32, lastIndex << 32, 0}},
	} {
		if got, e := Fresh(x.c); e != api.OK || !slices.Equal(got, x.want) {
			t.Errorf("%v: %v, %d, not %v", x.c, got, e, x.want)
		}
	}
}

// laid are all words of a beginning, one thing behind the other.
func laid(c Config) []uint64 {
	tag := uint64(c.Tag) << 32
	l := []uint64{tag, tag + 1}
	for i := 1; i < c.Nodes; i++ {
		l = append(l, uint64(i)+1, 0)
	}
	l = append(l, 0, 0)
	for range c.Slots {
		l = append(l, tag)
	}
	return append(l, make([]uint64, c.Holders)...)
}

func TestF2FreshOfAll(t *testing.T) {
	for k, c := range rightConfigs(true) {
		c.Tag = []uint32{0, 1, 1 << 31, lastIndex, uint32(k) * 40503}[k%5]
		if got, e := Fresh(c); e != api.OK || !slices.Equal(got, laid(c)) {
			t.Fatalf("%v: %v, %d", c, got, e)
		}
	}
}

func TestF2WrongConfigs(t *testing.T) {
	for _, c := range wrongConfigs() {
		if got, e := Fresh(c); e != api.ErrArg || len(got) != 0 {
			t.Errorf("%v: %v, %d", c, got, e)
		}
	}
}

func TestF3Chain(t *testing.T) {
	c := sized(3, 2, 1)
	checkChain(t, c, linked(c, 2, 3, 0), 1, 1, 2, 3)
	checkChain(t, c, linked(c, 2, 3, 0), 2, 2, 3)
	checkChain(t, c, linked(c, 2, 3, 0), 3, 3)
	checkChain(t, c, linked(c, 2, 3, 0), 0)
	checkChain(t, c, linked(c, 0, 1, 2), 3, 3, 2, 1)
	checkChain(t, c, linked(c, 3, 1, 0), 2, 2, 1, 3)
	checkChain(t, c, linked(c, 3, 3, 0), 1, 1, 3)
	checkChain(t, c, linked(c, 0, 0, 0), 2, 2)
	// What is not in the list may be anything.
	checkChain(t, c, linked(c, 0, 2, 9), 1, 1)
	checkChain(t, c, linked(c, 1, 2, 3), 0)
	checkChain(t, c, linked(c, 9, lastIndex, 1<<31), 0)
}

func TestF3UpperBits(t *testing.T) {
	c := sized(3, 2, 1)
	for _, up := range []uint64{1 << 32, 2 << 32, 3 << 32, 9 << 32, 1 << 63, tagged, lastIndex << 32} {
		words := linked(c, 2, 3, 0)
		for i := range uint32(3) {
			words[c.Next(i+1)] += up
		}
		checkChain(t, c, words, 1, 1, 2, 3)
		checkChain(t, c, words, up+1, 1, 2, 3)
		checkChain(t, c, words, up+3, 3)
		checkChain(t, c, words, up)
		checkNone(t, c, words, up+4)
		words[c.Next(2)] = up + 4
		checkNone(t, c, words, up+1)
		words[c.Next(2)] = up + 2
		checkNone(t, c, words, up+1)
	}
}

func TestF3IndexAboveNodes(t *testing.T) {
	c := sized(3, 2, 1)
	for _, bad := range []uint32{4, 5, 6, 7, 64, 65, 1 << 30, 1 << 31, 1<<31 + 1, lastIndex - 1, lastIndex} {
		checkNone(t, c, linked(c, 2, 3, 0), uint64(bad))
		checkNone(t, c, linked(c, bad, 3, 0), 1)
		checkNone(t, c, linked(c, 2, bad, 0), 1)
		checkNone(t, c, linked(c, 2, 3, bad), 1)
		checkChain(t, c, linked(c, bad, 3, 0), 2, 2, 3)
		// What lies at the places that such a node would have is of no list.
		words := linked(c, 2, 3, bad)
		clear(words[8:])
		checkNone(t, c, words, 1)
	}
}

func TestF3NodeThatItHas(t *testing.T) {
	c := sized(3, 0, 0)
	for i := range uint32(3) {
		checkNone(t, c, linked(c, 1, 2, 3), uint64(i+1))
		checkNone(t, c, linked(c, 2, 3, 1), uint64(i+1))
	}
	checkNone(t, c, linked(c, 2, 3, 2), 1)
	checkNone(t, c, linked(c, 2, 3, 3), 1)
	checkNone(t, c, linked(c, 2, 1, 0), 1)
	checkNone(t, c, linked(c, 2, 1, 1), 3)
	checkChain(t, c, linked(c, 2, 1, 0), 3, 3)
	one := sized(1, 0, 0)
	checkNone(t, one, linked(one, 1), 1)
	checkChain(t, one, linked(one, 1), 0)
	checkChain(t, one, linked(one, 0), 1, 1)
}

// TestF3LateFaults: lists of all nodes, in any order, and with a fault at each of its nodes.
func TestF3LateFaults(t *testing.T) {
	for _, c := range []Config{sized(1, 0, 0), sized(2, 0, 0), sized(5, 3, 0), sized(63, 0, 9), sized(64, 0, 0), sized(64, 16, 64)} {
		r := rand.New(rand.NewPCG(uint64(c.Nodes), 6))
		list := make([]uint32, c.Nodes)
		for k, i := range r.Perm(c.Nodes) {
			list[k] = uint32(i) + 1
		}
		first, words := uint64(list[0])+tagged, ordered(c, list)
		checkChain(t, c, words, first, list...)
		for k, i := range list {
			at := c.Next(i)
			was := words[at]
			words[at] = tagged
			checkChain(t, c, words, first, list[:k+1]...)
			for _, bad := range []uint32{uint32(c.Nodes) + 1, 1 << 31, lastIndex, i, list[0], list[k/2]} {
				words[at] = uint64(bad) + tagged
				checkNone(t, c, words, first)
			}
			words[at] = was
		}
	}
}

// follow is what Chain is to tell of nodes whose next ones are these.
func follow(next []uint32, i uint32) ([]uint32, bool) {
	if i == 0 {
		return nil, true
	}
	if int(i) > len(next) {
		return nil, false
	}
	rest := slices.Clone(next)
	rest[i-1] = lastIndex
	behind, ok := follow(rest, next[i-1])
	return append([]uint32{i}, behind...), ok
}

// TestF3AllLists: all words that four nodes, or fewer, may have as their next ones, beside those above them.
func TestF3AllLists(t *testing.T) {
	for nodes := 1; nodes <= 4; nodes++ {
		c := sized(nodes, 1, 1)
		count := 1
		for range nodes {
			count *= nodes + 2
		}
		for code := range count {
			next := make([]uint32, nodes)
			for k, rest := 0, code; k < nodes; k++ {
				next[k], rest = uint32(rest%(nodes+2)), rest/(nodes+2)
			}
			words := linked(c, next...)
			for i := range uint32(nodes + 2) {
				if list, ok := follow(next, i); ok {
					checkChain(t, c, words, uint64(i), list...)
				} else {
					checkNone(t, c, words, uint64(i))
				}
			}
		}
		if t.Failed() {
			t.FailNow()
		}
	}
}

func TestF3Stack(t *testing.T) {
	c := sized(3, 2, 1)
	words := linked(c, 0, 3, 1)
	words[Head] = pack.Word(2, 9)
	words[Free] = lastIndex
	checkStack(t, c, words, 1001, 1003, 1002)
	words[c.Value(3)] = 1<<64 - 1
	words[c.Value(1)] = 0
	checkStack(t, c, words, 0, 1<<64-1, 1002)
	words[Head] = pack.Word(1, 9)
	checkStack(t, c, words, 0)
	words[Head] = pack.Word(0, 9)
	checkStack(t, c, words)
	words[Head], words[Free] = pack.Word(4, 0), pack.Word(1, 0)
	checkNone(t, c, words, words[Head])
}

func TestF3WordsThatAreNotCells(t *testing.T) {
	for _, c := range []Config{sized(1, 0, 0), sized(3, 2, 1), sized(64, 16, 64)} {
		whole, e := Fresh(c)
		if e != api.OK {
			t.Fatal(e)
		}
		cells := c.Cells()
		for _, n := range []int{0, 1, 2, 3, cells / 2, cells - 1, cells + 1, cells + 2, 2 * cells, 1024, 5000} {
			if n == cells {
				continue
			}
			words := append(slices.Clone(whole), make([]uint64, 5000)...)[:n]
			for _, w := range []uint64{0, 1, tagged, tagged + 1, lastIndex} {
				checkNone(t, c, words, w)
			}
		}
		checkNone(t, c, nil, 0)
		checkNone(t, c, nil, 1)
		checkChain(t, c, whole, 0)
	}
}

func TestF3WrongConfigs(t *testing.T) {
	for _, c := range wrongConfigs() {
		for _, n := range []int{0, 1, 2, 3, 4, 5, 6, 7, 130, 132, 146, 147, 210, 211, 212, 213, 1024} {
			for _, w := range []uint64{0, 1, tagged, tagged + 1} {
				checkNone(t, c, make([]uint64, n), w)
			}
		}
		checkNone(t, c, nil, 0)
	}
}

// TestF4EachPlaceIsOneThings: all things, one behind the other, have all places, one behind the other.
func TestF4EachPlaceIsOneThings(t *testing.T) {
	for _, c := range rightConfigs(true) {
		at := 0
		next := func(what string, i, place int) {
			if place != at {
				t.Fatalf("%v: %s %d is at %d, not %d", c, what, i, place, at)
			}
			at++
		}
		next("head", 0, Head)
		next("head of the free nodes", 0, Free)
		for i := 1; i <= c.Nodes; i++ {
			next("next one of node", i, c.Next(uint32(i)))
			next("value of node", i, c.Value(uint32(i)))
		}
		for k := range c.Slots {
			next("slot", k, c.Slot(k))
		}
		for j := range c.Holders {
			next("holder", j, c.Holder(j))
		}
		next("cells", 0, c.Cells())
	}
}

func TestF4AllNodesAreFree(t *testing.T) {
	for _, tag := range []uint32{0, 1, 1 << 31, lastIndex} {
		for _, c := range rightConfigs(false) {
			c.Tag = tag
			words, e := Fresh(c)
			if e != api.OK {
				t.Fatal(c, e)
			}
			all := make([]uint32, c.Nodes)
			for k := range all {
				all[k] = uint32(k) + 1
			}
			if list, ok := Chain(c, words, words[Free]); !ok || !slices.Equal(list, all) {
				t.Fatalf("%v: free are %v, %t", c, list, ok)
			}
			if list, ok := Chain(c, words, words[Head]); !ok || len(list) != 0 {
				t.Fatalf("%v: in the stack are %v, %t", c, list, ok)
			}
			checkStack(t, c, words)
		}
	}
}

// TestP4AnswersAreApart: two answers share nothing, and what is done with one leaves the others.
func TestP4AnswersAreApart(t *testing.T) {
	c := Config{Nodes: 3, Slots: 2, Holders: 1, Tag: 5}
	a, _ := Fresh(c)
	b, _ := Fresh(c)
	for at := range a {
		a[at] = 0xdead
	}
	if !slices.Equal(b, laid(c)) {
		t.Error(b)
	}
	words := linked(c, 2, 3, 0)
	words[Head] = 1
	first, _ := Chain(c, words, 1)
	for k := range first[:cap(first)] {
		first[:cap(first)][k] = 9
	}
	if again, ok := Chain(c, words, 1); !ok || !slices.Equal(again, []uint32{1, 2, 3}) {
		t.Error(again, ok)
	}
	// A later change of the words is not seen in what was told ahead of it.
	values, _ := Stack(c, words)
	list, _ := Chain(c, words, 1)
	clear(words)
	if !slices.Equal(values, []uint64{1003, 1002, 1001}) || !slices.Equal(list, []uint32{1, 2, 3}) {
		t.Error(values, list)
	}
}
