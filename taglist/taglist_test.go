package taglist

import (
	"fmt"
	"math"
	"math/rand/v2"
	"slices"
	"testing"

	"hatstand/api"
	"hatstand/layout"
	"hatstand/pack"
	"hatstand/wmem"
)

const (
	lastIndex = 1<<32 - 1
	lastTag   = 1<<32 - 1
	// tagged are upper bits that a next one's word may have, and that nothing looks at.
	tagged = 0xfeedbeef << 32
)

// tags are first tags, those around which they go round among them.
var tags = []uint32{0, 1, 7, 1<<31 - 1, 1 << 31, lastTag - 1, lastTag}

type stepper interface {
	Step(m *wmem.Mem) (api.Status, uint32)
}

func memory(t *testing.T, words []uint64) *wmem.Mem {
	t.Helper()
	m, e := wmem.New(words)
	if e != api.OK {
		t.Fatal(e)
	}
	return m
}

// listed are a config's words in which that list of nodes is the one at a place; a node of no list has a next one that is none.
func listed(c layout.Config, at int, list ...uint32) []uint64 {
	words := make([]uint64, c.Cells())
	for k := range words {
		words[k] = 1<<40 + 99
	}
	words[layout.Head], words[layout.Free] = pack.Word(0, c.Tag), pack.Word(0, c.Tag)
	first := uint32(0)
	for _, i := range slices.Backward(list) {
		words[c.Next(i)] = uint64(first)
		first = i
	}
	words[at] = pack.Word(first, c.Tag)
	return words
}

func load(at int, w uint64) wmem.Access {
	return wmem.Access{Kind: wmem.Load, At: at, Old: w, New: w, OK: true}
}

func store(at int, old, w uint64) wmem.Access {
	return wmem.Access{Kind: wmem.Store, At: at, Old: old, New: w, OK: true}
}

func swapped(at int, old, new uint64) wmem.Access {
	return wmem.Access{Kind: wmem.Swap, At: at, Old: old, New: new, OK: true}
}

func unswapped(at int, w uint64) wmem.Access {
	return wmem.Access{Kind: wmem.Swap, At: at, Old: w, New: w}
}

// checkStep wants what a step tells, and its accesses.
func checkStep(t *testing.T, x stepper, m *wmem.Mem, s api.Status, i uint32, accesses ...wmem.Access) {
	t.Helper()
	n := m.Count()
	gots, goti := x.Step(m)
	if gots != s || goti != i {
		t.Fatalf("%T: a step tells %d, %d, not %d, %d", x, gots, goti, s, i)
	}
	if got := m.Since(n); !slices.Equal(got, accesses) {
		t.Fatalf("%T: a step does %v, not %v", x, got, accesses)
	}
}

// checkEnded wants that later steps tell the same, without an access, whichever memory there is.
func checkEnded(t *testing.T, x stepper, m *wmem.Mem, s api.Status, i uint32) {
	t.Helper()
	none := memory(t, nil)
	other := memory(t, make([]uint64, api.MaxCells))
	for range 3 {
		checkStep(t, x, m, s, i)
		checkStep(t, x, none, s, i)
		checkStep(t, x, other, s, i)
	}
}

// checkTake wants that a Take, alone, takes the list's first node.
func checkTake(t *testing.T, c layout.Config, at int, words []uint64) []uint64 {
	t.Helper()
	m, x := memory(t, words), NewTake(c, at)
	w := words[at]
	i := uint32(w)
	next := words[2*int(i)]
	to := uint64(uint32(w>>32)+1)<<32 | uint64(uint32(next))
	checkStep(t, x, m, api.Running, 0, load(at, w))
	checkStep(t, x, m, api.Running, 0, load(2*int(i), next))
	checkStep(t, x, m, api.Done, i, swapped(at, w, to))
	checkEnded(t, x, m, api.Done, i)
	want := slices.Clone(words)
	want[at] = to
	if got := m.Words(); !slices.Equal(got, want) {
		t.Fatalf("%v: a Take at %d leaves %v", words, at, got)
	}
	return want
}

// checkGive wants that a Give, alone, makes its node the first one.
func checkGive(t *testing.T, c layout.Config, at int, i uint32, words []uint64) []uint64 {
	t.Helper()
	m, x := memory(t, words), NewGive(c, at, i)
	w := words[at]
	to := uint64(uint32(w>>32)+1)<<32 | uint64(i)
	checkStep(t, x, m, api.Running, 0, load(at, w))
	checkStep(t, x, m, api.Running, 0, store(2*int(i), words[2*i], uint64(uint32(w))))
	checkStep(t, x, m, api.Done, i, swapped(at, w, to))
	checkEnded(t, x, m, api.Done, i)
	want := slices.Clone(words)
	want[at], want[2*i] = to, uint64(uint32(w))
	if got := m.Words(); !slices.Equal(got, want) {
		t.Fatalf("%v: a Give of %d at %d leaves %v", words, i, at, got)
	}
	return want
}

// checkList wants that list of nodes at that place.
func checkList(t *testing.T, c layout.Config, words []uint64, at int, want ...uint32) {
	t.Helper()
	got, ok := layout.Chain(c, words, words[at])
	if !ok || !slices.Equal(got, want) {
		t.Fatalf("the list at %d is %v, %t, not %v", at, got, ok, want)
	}
}

func allNodes(n int) []uint32 {
	var l []uint32
	for i := 1; i <= n; i++ {
		l = append(l, uint32(i))
	}
	return l
}

// TestG1Example: the list 1, 2: Running, Running, Done 1; none: None.
func TestG1Example(t *testing.T) {
	c := layout.Config{Nodes: 2}
	words, _ := layout.Fresh(c)
	m, x := memory(t, words), NewTake(c, layout.Free)
	for k, want := range []api.Status{api.Running, api.Running, api.Done, api.Done} {
		s, i := x.Step(m)
		if s != want || i != []uint32{0, 0, 1, 1}[k] {
			t.Error(k, s, i)
		}
	}
	if s, i := NewTake(c, layout.Head).Step(m); s != api.None || i != 0 {
		t.Error(s, i)
	}
}

// TestG1Alone: lists of one node, of some, of all, at both heads, in order, backward, and mixed.
func TestG1Alone(t *testing.T) {
	r := rand.New(rand.NewPCG(7, 1))
	for _, nodes := range []int{1, 2, 3, 5, 63, 64} {
		for k, tag := range tags {
			c := layout.Config{Nodes: nodes, Slots: k, Holders: 3 * k, Tag: tag}
			for at := range 2 {
				list := allNodes(nodes)
				for range 4 {
					for n := 1; n <= nodes; n += max(1, nodes/4) {
						words := checkTake(t, c, at, listed(c, at, list[:n]...))
						checkList(t, c, words, at, list[1:n]...)
					}
					r.Shuffle(len(list), func(i, j int) { list[i], list[j] = list[j], list[i] })
				}
				slices.Sort(list)
				slices.Reverse(list)
				words := listed(c, at, list...)
				for k := range list {
					words = checkTake(t, c, at, words)
					checkList(t, c, words, at, list[k+1:]...)
				}
				checkEmpty(t, c, at, words)
			}
		}
	}
}

// checkEmpty wants that a Take finds nothing by its first step, and changes nothing.
func checkEmpty(t *testing.T, c layout.Config, at int, words []uint64) {
	t.Helper()
	m, x := memory(t, words), NewTake(c, at)
	checkStep(t, x, m, api.None, 0, load(at, words[at]))
	checkEnded(t, x, m, api.None, 0)
	if got := m.Words(); !slices.Equal(got, words) {
		t.Fatalf("%v: a Take of an empty list leaves %v", words, got)
	}
}

func TestG1Empty(t *testing.T) {
	for _, nodes := range []int{1, 2, 64} {
		for _, tag := range tags {
			c := layout.Config{Nodes: nodes, Tag: tag}
			checkEmpty(t, c, layout.Head, listed(c, layout.Free, allNodes(nodes)...))
			checkEmpty(t, c, layout.Free, listed(c, layout.Head, allNodes(nodes)...))
			words := listed(c, layout.Head)
			words[0] = tagged
			checkEmpty(t, c, layout.Head, words)
		}
	}
}

// TestG1TagsGoRound: behind the last tag comes 0; and the index stays whole.
func TestG1TagsGoRound(t *testing.T) {
	c := layout.Config{Nodes: 3, Tag: lastTag}
	words := checkTake(t, c, layout.Free, listed(c, layout.Free, 2, 3))
	if words[layout.Free] != 3 {
		t.Error(words)
	}
	words = checkTake(t, c, layout.Free, words)
	if words[layout.Free] != 1<<32 {
		t.Error(words)
	}
}

// TestG1NextsUpperBits: of the next one's word the index alone comes into the list's word.
func TestG1NextsUpperBits(t *testing.T) {
	for _, tag := range tags {
		c := layout.Config{Nodes: 3, Tag: tag}
		words := listed(c, layout.Head, 3, 1)
		words[c.Next(3)] |= tagged
		words[c.Next(1)] |= tagged
		words = checkTake(t, c, layout.Head, words)
		if words[layout.Head] != pack.Word(1, tag+1) || words[c.Next(3)] != tagged|1 {
			t.Errorf("%x", words)
		}
		words = checkTake(t, c, layout.Head, words)
		if words[layout.Head] != pack.Word(0, tag+2) {
			t.Errorf("%x", words)
		}
	}
}

// TestG1NextThatIsNone: the next one's index comes into the list's word whatever it is; the next Take is Broken by it.
func TestG1NextThatIsNone(t *testing.T) {
	c := layout.Config{Nodes: 3, Tag: 4}
	for _, next := range []uint32{4, 5, 64, 1 << 31, lastIndex} {
		words := listed(c, layout.Head, 2)
		words[c.Next(2)] = uint64(next)
		words = checkTake(t, c, layout.Head, words)
		if words[layout.Head] != pack.Word(next, 5) {
			t.Errorf("%x", words)
		}
		m, x := memory(t, words), NewTake(c, layout.Head)
		checkStep(t, x, m, api.Broken, 0, load(layout.Head, words[layout.Head]))
		checkEnded(t, x, m, api.Broken, 0)
	}
	words := listed(c, layout.Head, 2)
	words[c.Next(2)] = 2
	checkTake(t, c, layout.Head, words)
}

// TestG1OtherPlaces: a list may begin at any place.
func TestG1OtherPlaces(t *testing.T) {
	c := layout.Config{Nodes: 2, Slots: 1, Holders: 1, Tag: 9}
	words := listed(c, layout.Free, 1)
	for _, at := range []int{c.Value(1), c.Next(2), c.Slot(0), c.Holder(0)} {
		w := slices.Clone(words)
		w[at] = pack.Word(1, 20)
		checkTake(t, c, at, w)
		w[at] = pack.Word(0, 20)
		checkEmpty(t, c, at, w)
		checkGive(t, c, at, 1, w)
	}
}

// noPlaces are numbers of no place of so many words.
func noPlaces(words int) []int {
	return []int{-1, -2, -1 << 32, math.MinInt, words, words + 1, words + 64, 1024, 1 << 32, math.MaxInt}
}

func TestG1NoPlace(t *testing.T) {
	c := layout.Config{Nodes: 3, Slots: 2}
	words := listed(c, layout.Head, 1, 2, 3)
	for _, at := range noPlaces(len(words)) {
		m, x := memory(t, words), NewTake(c, at)
		checkStep(t, x, m, api.Broken, 0)
		checkEnded(t, x, m, api.Broken, 0)
	}
}

// TestG1FewWords: the second load has no place, or the list has none.
func TestG1FewWords(t *testing.T) {
	c := layout.Config{Nodes: 4, Tag: 3}
	for i := uint32(1); i <= 4; i++ {
		words := listed(c, layout.Free, i)
		for n := range len(words) {
			m, x := memory(t, words[:n]), NewTake(c, layout.Free)
			switch {
			case n <= layout.Free:
				checkStep(t, x, m, api.Broken, 0)
			case n <= c.Next(i):
				checkStep(t, x, m, api.Running, 0, load(layout.Free, words[layout.Free]))
				checkStep(t, x, m, api.Broken, 0)
			default:
				checkTake(t, c, layout.Free, words[:n])
				continue
			}
			checkEnded(t, x, m, api.Broken, 0)
			if got := m.Words(); !slices.Equal(got, words[:n]) {
				t.Errorf("%v: left %v", words[:n], got)
			}
		}
	}
}

// noNodes are indexes above so many nodes.
func noNodes(nodes int) []uint32 {
	n := uint32(nodes)
	return []uint32{n + 1, n + 2, 1<<16 + n, 1<<31 - 1, 1 << 31, 1<<31 + n, 1<<31 + 1, lastIndex - 1, lastIndex}
}

func TestG1NoNode(t *testing.T) {
	for _, nodes := range []int{1, 2, 63, 64} {
		c := layout.Config{Nodes: nodes, Slots: 16, Holders: 64}
		for _, i := range noNodes(nodes) {
			for at := range 2 {
				words := listed(c, at, 1)
				words[at] = pack.Word(i, 6)
				m, x := memory(t, words), NewTake(c, at)
				checkStep(t, x, m, api.Broken, 0, load(at, words[at]))
				checkEnded(t, x, m, api.Broken, 0)
				if got := m.Words(); !slices.Equal(got, words) {
					t.Errorf("%v: left %v", words, got)
				}
			}
		}
	}
}

func wrongConfigs() []layout.Config {
	return []layout.Config{
		{}, {Tag: 5}, {Nodes: -1}, {Nodes: 65}, {Nodes: math.MaxInt}, {Nodes: math.MinInt},
		{Nodes: 3, Slots: -1}, {Nodes: 3, Slots: 17}, {Nodes: 3, Holders: -1}, {Nodes: 3, Holders: 65},
	}
}

// TestG1WrongConfig: the list's word is loaded; that it is empty is told ahead of what the config is.
func TestG1WrongConfig(t *testing.T) {
	for _, c := range wrongConfigs() {
		for _, i := range append(noNodes(3), 1, 2, 3, 0) {
			words := make([]uint64, 300)
			words[layout.Head] = pack.Word(i, 8)
			want := api.Broken
			if i == 0 {
				want = api.None
			}
			m, x := memory(t, words), NewTake(c, layout.Head)
			checkStep(t, x, m, want, 0, load(layout.Head, words[layout.Head]))
			checkEnded(t, x, m, want, 0)
		}
		m, x := memory(t, []uint64{1}), NewTake(c, 1)
		checkStep(t, x, m, api.Broken, 0)
		checkEnded(t, x, m, api.Broken, 0)
	}
}

// TestG2Alone: nodes are given to empty lists and to others, at both heads, the first one and the last one among them.
func TestG2Alone(t *testing.T) {
	r := rand.New(rand.NewPCG(7, 2))
	for _, nodes := range []int{1, 2, 3, 5, 63, 64} {
		for k, tag := range tags {
			c := layout.Config{Nodes: nodes, Slots: k, Holders: 3 * k, Tag: tag}
			for at := range 2 {
				order := allNodes(nodes)
				for range 3 {
					words := listed(c, at)
					var list []uint32
					for _, i := range order {
						words = checkGive(t, c, at, i, words)
						list = slices.Insert(list, 0, i)
						checkList(t, c, words, at, list...)
					}
					if words[at] != pack.Word(order[nodes-1], tag+uint32(nodes)) {
						t.Fatal(words)
					}
					slices.Reverse(order)
					if nodes > 2 {
						r.Shuffle(nodes, func(i, j int) { order[i], order[j] = order[j], order[i] })
					}
				}
			}
		}
	}
}

// TestG2Examples: what the words are, one by one.
func TestG2Examples(t *testing.T) {
	c := layout.Config{Nodes: 2, Tag: lastTag}
	words := []uint64{lastTag << 32, lastTag << 32, 77, 0, 88, 0}
	words = checkGive(t, c, layout.Head, 2, words)
	if !slices.Equal(words, []uint64{2, lastTag << 32, 77, 0, 0, 0}) {
		t.Error(words)
	}
	words = checkGive(t, c, layout.Head, 1, words)
	if !slices.Equal(words, []uint64{1<<32 + 1, lastTag << 32, 2, 0, 0, 0}) {
		t.Error(words)
	}
}

// TestG2NodeThatIsThere: a Give looks at nothing but its own node: what the list has already, and what its word says, is not asked.
func TestG2NodeThatIsThere(t *testing.T) {
	c := layout.Config{Nodes: 3}
	words := checkGive(t, c, layout.Head, 1, listed(c, layout.Head, 1, 2))
	if words[layout.Head] != pack.Word(1, 1) || words[c.Next(1)] != 1 {
		t.Error(words)
	}
	for _, i := range noNodes(3) {
		words := listed(c, layout.Head)
		words[layout.Head] = pack.Word(i, 8)
		words = checkGive(t, c, layout.Head, 2, words)
		if words[c.Next(2)] != uint64(i) {
			t.Error(words)
		}
	}
}

// TestG2NoNode: nothing is done, whatever else is wrong.
func TestG2NoNode(t *testing.T) {
	for _, nodes := range []int{1, 2, 63, 64} {
		c := layout.Config{Nodes: nodes, Slots: 16, Holders: 64}
		words := listed(c, layout.Head, 1)
		for _, i := range append(noNodes(nodes), 0) {
			for _, at := range append(noPlaces(len(words)), layout.Head, layout.Free) {
				m, x := memory(t, words), NewGive(c, at, i)
				checkStep(t, x, m, api.Broken, 0)
				checkEnded(t, x, m, api.Broken, 0)
			}
		}
	}
}

func TestG2WrongConfig(t *testing.T) {
	for _, c := range wrongConfigs() {
		for _, i := range append(noNodes(3), 0, 1, 2, 3) {
			for at := range 2 {
				m, x := memory(t, make([]uint64, 300)), NewGive(c, at, i)
				checkStep(t, x, m, api.Broken, 0)
				checkEnded(t, x, m, api.Broken, 0)
			}
		}
	}
}

func TestG2NoPlace(t *testing.T) {
	c := layout.Config{Nodes: 3, Slots: 2}
	words := listed(c, layout.Head, 1, 2)
	for _, at := range noPlaces(len(words)) {
		m, x := memory(t, words), NewGive(c, at, 3)
		checkStep(t, x, m, api.Broken, 0)
		checkEnded(t, x, m, api.Broken, 0)
	}
}

// TestG2FewWords: the store has no place, or the list has none.
func TestG2FewWords(t *testing.T) {
	c := layout.Config{Nodes: 4, Tag: 3}
	words := listed(c, layout.Free, 2, 3)
	for i := uint32(1); i <= 4; i++ {
		for n := range len(words) {
			m, x := memory(t, words[:n]), NewGive(c, layout.Free, i)
			switch {
			case n <= layout.Free:
				checkStep(t, x, m, api.Broken, 0)
			case n <= c.Next(i):
				checkStep(t, x, m, api.Running, 0, load(layout.Free, words[layout.Free]))
				checkStep(t, x, m, api.Broken, 0)
			default:
				checkGive(t, c, layout.Free, i, words[:n])
				continue
			}
			checkEnded(t, x, m, api.Broken, 0)
			if got := m.Words(); !slices.Equal(got, words[:n]) {
				t.Errorf("%v: left %v", words[:n], got)
			}
		}
	}
}

// TestG3OtherMemory: an access that errs ends a machine at whichever step.
func TestG3OtherMemory(t *testing.T) {
	c := layout.Config{Nodes: 2}
	none := memory(t, nil)
	for behind := range 3 {
		for _, x := range []stepper{NewTake(c, layout.Free), NewGive(c, layout.Free, 2)} {
			m := memory(t, listed(c, layout.Free, 1))
			for range behind {
				if s, i := x.Step(m); s != api.Running || i != 0 {
					t.Fatal(s, i)
				}
			}
			checkStep(t, x, none, api.Broken, 0)
			checkEnded(t, x, m, api.Broken, 0)
		}
	}
}

// changed are machines whose list another one changes ahead of that step; want is what they tell then.
func changed(t *testing.T, begin func(layout.Config) stepper, behind int, change func(m *wmem.Mem, c layout.Config)) {
	t.Helper()
	for _, tag := range tags {
		c := layout.Config{Nodes: 4, Tag: tag}
		m, x := memory(t, listed(c, layout.Free, 1, 2, 3)), begin(c)
		for range behind {
			if s, i := x.Step(m); s != api.Running || i != 0 {
				t.Fatal(s, i)
			}
		}
		change(m, c)
		for range 2 - behind {
			if s, i := x.Step(m); s != api.Running || i != 0 {
				t.Fatal(s, i)
			}
		}
		was := m.Words()
		checkStep(t, x, m, api.Contended, 0, unswapped(layout.Free, was[layout.Free]))
		checkEnded(t, x, m, api.Contended, 0)
		if got := m.Words(); !slices.Equal(got, was) {
			t.Errorf("%v: left %v", was, got)
		}
	}
}

func runAlone(t *testing.T, m *wmem.Mem, x stepper) {
	t.Helper()
	for k := range 3 {
		if s, _ := x.Step(m); s != []api.Status{api.Running, api.Running, api.Done}[k] {
			t.Fatalf("%T: %d", x, s)
		}
	}
}

// TestG3Changed: others took, gave, and gave back the same node that was first.
func TestG3Changed(t *testing.T) {
	taken := func(m *wmem.Mem, c layout.Config) { runAlone(t, m, NewTake(c, layout.Free)) }
	given := func(m *wmem.Mem, c layout.Config) { runAlone(t, m, NewGive(c, layout.Free, 4)) }
	back := func(m *wmem.Mem, c layout.Config) {
		runAlone(t, m, NewTake(c, layout.Free))
		runAlone(t, m, NewGive(c, layout.Free, 1))
		words := m.Words()
		checkList(t, c, words, layout.Free, 1, 2, 3)
	}
	for _, change := range []func(m *wmem.Mem, c layout.Config){taken, given, back} {
		for behind := 1; behind <= 2; behind++ {
			changed(t, func(c layout.Config) stepper { return NewTake(c, layout.Free) }, behind, change)
			changed(t, func(c layout.Config) stepper { return NewGive(c, layout.Free, 4) }, behind, change)
		}
	}
}

// TestG3TakeBesideGive: a Take that loads its node's next one behind another's Take of it does not hand it out again.
func TestG3TakeBesideGive(t *testing.T) {
	c := layout.Config{Nodes: 3}
	m := memory(t, listed(c, layout.Free, 1, 2, 3))
	late := NewTake(c, layout.Free)
	checkStep(t, late, m, api.Running, 0, load(layout.Free, pack.Word(1, 0)))
	runAlone(t, m, NewTake(c, layout.Free))
	runAlone(t, m, NewTake(c, layout.Free))
	runAlone(t, m, NewGive(c, layout.Free, 1))
	checkStep(t, late, m, api.Running, 0, load(c.Next(1), 3))
	checkStep(t, late, m, api.Contended, 0, unswapped(layout.Free, pack.Word(1, 3)))
	words := m.Words()
	checkList(t, c, words, layout.Free, 1, 3)
}

// TestG3SwapNeedsTheWholeWord: the word's tag alone tells that it is another list; the same word is the same list.
func TestG3SwapNeedsTheWholeWord(t *testing.T) {
	c := layout.Config{Nodes: 2, Tag: 5}
	for _, other := range []uint64{pack.Word(1, 6), pack.Word(2, 5), pack.Word(1, 5+1<<31), pack.Word(1, 4), pack.Word(0, 5)} {
		m, x := memory(t, listed(c, layout.Head, 1, 2)), NewTake(c, layout.Head)
		x.Step(m)
		x.Step(m)
		m.Store(layout.Head, other)
		checkStep(t, x, m, api.Contended, 0, unswapped(layout.Head, other))
	}
	m, x := memory(t, listed(c, layout.Head, 1, 2)), NewTake(c, layout.Head)
	x.Step(m)
	x.Step(m)
	m.Store(layout.Head, pack.Word(2, 9))
	m.Store(layout.Head, pack.Word(1, 5))
	checkStep(t, x, m, api.Done, 1, swapped(layout.Head, pack.Word(1, 5), pack.Word(2, 6)))
}

// ref is a machine once more, written out by what was loaded so far.
type ref struct {
	give   bool
	c      layout.Config
	at     int
	node   uint32
	loaded []uint64
	steps  int
	ended  bool
	status api.Status
	told   uint32
}

// step is what the chapter says of the next step over those words, which it changes: what is told, and which access there is.
func (r *ref) step(words []uint64) (api.Status, uint32, []wmem.Access) {
	if r.ended {
		return r.status, r.told, nil
	}
	r.steps++
	right := layout.Check(r.c) == api.OK
	isNode := func(i uint32) bool { return right && i >= 1 && int64(i) <= int64(r.c.Nodes) }
	if r.give && !isNode(r.node) {
		return r.end(api.Broken, 0, nil)
	}
	place := r.at
	if r.steps == 2 {
		place = 2 * int(r.node)
	}
	if place < 0 || place >= len(words) {
		return r.end(api.Broken, 0, nil)
	}
	w := words[place]
	switch {
	case r.steps == 1:
		r.loaded = append(r.loaded, w)
		a := []wmem.Access{load(place, w)}
		if r.give {
			return api.Running, 0, a
		}
		r.node = uint32(w)
		if r.node == 0 {
			return r.end(api.None, 0, a)
		}
		if !isNode(r.node) {
			return r.end(api.Broken, 0, a)
		}
		return api.Running, 0, a
	case r.steps == 2 && r.give:
		words[place] = r.loaded[0] % (1 << 32)
		return api.Running, 0, []wmem.Access{store(place, w, words[place])}
	case r.steps == 2:
		r.loaded = append(r.loaded, w)
		return api.Running, 0, []wmem.Access{load(place, w)}
	}
	if w != r.loaded[0] {
		return r.end(api.Contended, 0, []wmem.Access{unswapped(place, w)})
	}
	first := uint64(r.node)
	if !r.give {
		first = r.loaded[1] % (1 << 32)
	}
	words[place] = (w>>32+1)<<32 | first
	return r.end(api.Done, r.node, []wmem.Access{swapped(place, w, words[place])})
}

func (r *ref) end(s api.Status, i uint32, a []wmem.Access) (api.Status, uint32, []wmem.Access) {
	r.ended, r.status, r.told = true, s, i
	return s, i, a
}

// drawn is some machine, mostly of a right config and of a place that is one.
func drawn(r *rand.Rand, c layout.Config) (stepper, *ref) {
	at := r.IntN(2)
	switch r.IntN(12) {
	case 0:
		at = r.IntN(2*c.Cells()+4) - 2
	case 1:
		c = wrongConfigs()[r.IntN(len(wrongConfigs()))]
	}
	if r.IntN(2) == 0 {
		return NewTake(c, at), &ref{c: c, at: at}
	}
	i := uint32(r.IntN(7))
	return NewGive(c, at, i), &ref{give: true, c: c, at: at, node: i}
}

// TestG3DrawnTurns: machines of all kinds, over words that are lists or anything, in drawn turns: each step is as the chapter says.
func TestG3DrawnTurns(t *testing.T) {
	r := rand.New(rand.NewPCG(7, 3))
	for run := range 6000 {
		c := layout.Config{Nodes: 1 + r.IntN(5), Slots: r.IntN(2), Holders: r.IntN(2), Tag: tags[r.IntN(len(tags))]}
		words, _ := layout.Fresh(c)
		for k := range words {
			if run%3 != 0 && r.IntN(3) == 0 {
				words[k] = pack.Word(uint32(r.IntN(c.Nodes+2)), c.Tag+uint32(r.IntN(2)))
			}
		}
		if run%7 == 0 {
			words = words[:r.IntN(len(words)+1)]
		}
		m := memory(t, words)
		machines, refs := make([]stepper, 6), make([]*ref, 6)
		for k := range machines {
			machines[k], refs[k] = drawn(r, c)
		}
		for range 40 {
			k := r.IntN(len(machines))
			s, i, a := refs[k].step(words)
			checkStep(t, machines[k], m, s, i, a...)
			if refs[k].ended && r.IntN(3) == 0 {
				machines[k], refs[k] = drawn(r, c)
			}
		}
		if got := m.Words(); !slices.Equal(got, words) {
			t.Fatalf("left %v, not %v", got, words)
		}
	}
}

// orders goes over all orders in which machines of three steps each may take turns.
func orders(machines int, do func(order []int)) {
	left := slices.Repeat([]int{3}, machines)
	var order []int
	var more func()
	more = func() {
		if len(order) == 3*machines {
			do(order)
			return
		}
		for k := range left {
			if left[k] > 0 {
				left[k]--
				order = append(order, k)
				more()
				order = order[:len(order)-1]
				left[k]++
			}
		}
	}
	more()
}

// checkOrder lets the machines take those turns; each is Contended just if another one did its Swap in between, and no node is two's, or lost.
func checkOrder(t *testing.T, c layout.Config, words []uint64, machines []stepper, given []uint32, order []int) {
	t.Helper()
	m := memory(t, words)
	held := map[uint32]bool{}
	for _, i := range given {
		held[i] = true
	}
	began, swaps := map[int]int{}, 0
	for _, k := range order {
		if _, ok := began[k]; !ok {
			began[k] = swaps
		}
		s, i := machines[k].Step(m)
		_, give := machines[k].(*Give)
		switch s {
		case api.Done:
			if held[i] != give {
				t.Fatalf("%v: node %d is two's", order, i)
			}
			if swaps != began[k] {
				t.Fatalf("%v: machine %d is done, and another one swapped in between", order, k)
			}
			held[i] = !give
			swaps++
			began[k] = swaps
		case api.Contended:
			if swaps == began[k] {
				t.Fatalf("%v: machine %d is Contended, and no other one swapped in between", order, k)
			}
		case api.Broken:
			t.Fatalf("%v: machine %d is Broken", order, k)
		}
		checkWhole(t, c, m.Words(), held)
	}
}

// checkWhole wants that the free list and what is held are all nodes, each once.
func checkWhole(t *testing.T, c layout.Config, words []uint64, held map[uint32]bool) {
	t.Helper()
	list, ok := layout.Chain(c, words, words[layout.Free])
	if !ok {
		t.Fatal("the list is none", words)
	}
	for i, is := range held {
		if is {
			list = append(list, i)
		}
	}
	slices.Sort(list)
	if !slices.Equal(list, allNodes(c.Nodes)) {
		t.Fatalf("all nodes are %v", list)
	}
}

// TestG3AllTurns: three machines, and all their turns; of lists of no node up to four.
func TestG3AllTurns(t *testing.T) {
	for gives := range 4 {
		for free := range 4 {
			nodes := max(1, free+gives)
			c := layout.Config{Nodes: nodes, Tag: lastTag - 1}
			list, given := allNodes(nodes)[:nodes-gives], allNodes(nodes)[nodes-gives:]
			words := listed(c, layout.Free, list...)
			orders(3, func(order []int) {
				var machines []stepper
				for _, i := range given {
					machines = append(machines, NewGive(c, layout.Free, i))
				}
				for len(machines) < 3 {
					machines = append(machines, NewTake(c, layout.Free))
				}
				checkOrder(t, c, words, machines, given, order)
			})
		}
	}
}

// TestG3LongRuns: threads take and give on and on, in drawn turns; a node that was taken is given back, and one that was first is first again.
func TestG3LongRuns(t *testing.T) {
	r := rand.New(rand.NewPCG(7, 4))
	for run := range 60 {
		c := layout.Config{Nodes: 1 + r.IntN(6), Tag: tags[run%len(tags)]}
		words, _ := layout.Fresh(c)
		m := memory(t, words)
		held := map[uint32]bool{}
		mine := make([]uint32, 4)
		machines := make([]stepper, 4)
		began, swaps := make([]int, 4), 0
		for range 1500 {
			k := r.IntN(4)
			if machines[k] == nil {
				began[k] = -1
				machines[k] = NewTake(c, layout.Free)
				if mine[k] != 0 {
					machines[k] = NewGive(c, layout.Free, mine[k])
				}
			}
			if began[k] < 0 {
				began[k] = swaps
			}
			s, i := machines[k].Step(m)
			if s == api.Running {
				continue
			}
			machines[k] = nil
			switch {
			case s == api.Done && mine[k] != 0:
				held[i], mine[k] = false, 0
			case s == api.Done:
				if held[i] {
					t.Fatal("two have node", i)
				}
				held[i], mine[k] = true, i
			}
			if (s == api.Contended) != (swaps != began[k] && s != api.None) {
				t.Fatal("Contended, though nobody swapped, or the other way round:", s, swaps, began[k])
			}
			if s == api.Done {
				swaps++
			}
			checkWhole(t, c, m.Words(), held)
		}
		if swaps < 100 {
			t.Error("there were few swaps:", swaps)
		}
	}
}

// TestG3Apart: machines share nothing: not with one another, not with a config that is changed later; a copy goes on by itself.
func TestG3Apart(t *testing.T) {
	c := layout.Config{Nodes: 2, Tag: 1}
	words := listed(c, layout.Free, 1, 2)
	m := memory(t, words)
	x, y := NewTake(c, layout.Free), NewTake(c, layout.Head)
	g := NewGive(c, layout.Head, 1)
	c.Nodes = 0
	checkStep(t, x, m, api.Running, 0, load(1, words[1]))
	checkStep(t, y, m, api.None, 0, load(0, words[0]))
	checkStep(t, g, m, api.Running, 0, load(0, words[0]))
	other := *x
	checkStep(t, x, m, api.Running, 0, load(2, 2))
	checkStep(t, x, m, api.Done, 1, swapped(1, words[1], pack.Word(2, 2)))
	checkStep(t, &other, m, api.Running, 0, load(2, 2))
	checkStep(t, &other, m, api.Contended, 0, unswapped(1, pack.Word(2, 2)))
	checkStep(t, g, m, api.Running, 0, store(2, 2, 0))
	checkStep(t, g, m, api.Done, 1, swapped(0, words[0], pack.Word(1, 2)))
	checkEnded(t, x, m, api.Done, 1)
	checkEnded(t, y, m, api.None, 0)
	checkEnded(t, g, m, api.Done, 1)
}

// TestP4Same: the same steps over the same words tell the same.
func TestP4Same(t *testing.T) {
	run := func() string {
		r := rand.New(rand.NewPCG(7, 5))
		c := layout.Config{Nodes: 3, Tag: lastTag}
		words, _ := layout.Fresh(c)
		m := memory(t, words)
		var told []string
		machines := []stepper{NewTake(c, 1), NewTake(c, 1), NewGive(c, 0, 3), NewTake(c, 0), NewGive(c, 1, 2)}
		for range 60 {
			s, i := machines[r.IntN(len(machines))].Step(m)
			told = append(told, fmt.Sprint(int(s), i))
		}
		return fmt.Sprint(told, m.Words())
	}
	first := run()
	for range 20 {
		if run() != first {
			t.Fatal("the same steps tell another thing")
		}
	}
}
