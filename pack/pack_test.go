package pack

import "testing"

const last = 1<<32 - 1

// edges are numbers at which a part that is cut, shifted or carried wrongly shows.
func edges() []uint32 {
	l := []uint32{0, 1, 2, 5, 7, 17, 1000, last - 1, last}
	for b := 8; b < 32; b++ {
		l = append(l, 1<<b-1, 1<<b, 1<<b+1)
	}
	return l
}

func TestA1Word(t *testing.T) {
	for _, c := range []struct {
		index, tag uint32
		want       uint64
	}{
		{5, 1, 4294967301},
		{0, 0, 0},
		{1, 0, 1},
		{0, 1, 1 << 32},
		{last, 0, last},
		{0, last, 18446744069414584320},
		{last, last, 18446744073709551615},
		{1 << 31, 0, 1 << 31},
		{0, 1 << 31, 1 << 63},
	} {
		if got := Word(c.index, c.tag); got != c.want {
			t.Errorf("Word(%d, %d) is %d, not %d", c.index, c.tag, got, c.want)
		}
	}
}

func TestA1IndexAndTag(t *testing.T) {
	for _, c := range []struct {
		w          uint64
		index, tag uint32
	}{
		{4294967301, 5, 1},
		{0, 0, 0},
		{last, last, 0},
		{1 << 32, 0, 1},
		{1<<63 + 1<<31, 1 << 31, 1 << 31},
		{18446744069414584320, 0, last},
		{18446744073709551615, last, last},
		{0x0123456789abcdef, 0x89abcdef, 0x01234567},
	} {
		if i, g := Index(c.w), Tag(c.w); i != c.index || g != c.tag {
			t.Errorf("Index and Tag of %d are %d, %d, not %d, %d", c.w, i, g, c.index, c.tag)
		}
	}
}

func TestA1Next(t *testing.T) {
	for _, c := range []struct {
		index, tag, next uint32
		want             uint64
	}{
		{5, last, 7, 7},
		{5, 1, 7, 2<<32 + 7},
		{5, 1, 5, 2<<32 + 5},
		{0, 0, 0, 1 << 32},
		{0, 0, last, 1<<32 + last},
		{last, 0, 0, 1 << 32},
		{last, last - 1, last, 1<<64 - 1},
		{last, last, last, last},
		{9, 1<<31 - 1, 0, 1 << 63},
	} {
		if got := Next(Word(c.index, c.tag), c.next); got != c.want {
			t.Errorf("Next of Word(%d, %d), and %d, is %d, not %d", c.index, c.tag, c.next, got, c.want)
		}
	}
}

func TestA2Ahead(t *testing.T) {
	for _, c := range []struct{ a, b, want uint32 }{
		{3, 3, 0},
		{3, 5, 2},
		{5, 3, last - 1},
		{last, 0, 1},
		{0, last, last},
		{last - 2, 4, 7},
		{0, 1 << 31, 1 << 31},
		{1 << 31, 0, 1 << 31},
	} {
		for _, i := range []uint32{0, 8, last} {
			if got := Ahead(Word(i, c.a), Word(last-i, c.b)); got != c.want {
				t.Errorf("Ahead of tags %d, %d, and index %d, is %d, not %d", c.a, c.b, i, got, c.want)
			}
		}
	}
}

func TestA3WordIsIndexAndTag(t *testing.T) {
	seen := map[uint64][2]uint32{}
	l := edges()
	for _, index := range l {
		for _, tag := range l {
			w := Word(index, tag)
			if Index(w) != index || Tag(w) != tag {
				t.Fatalf("Word(%d, %d) has %d, %d", index, tag, Index(w), Tag(w))
			}
			if other, ok := seen[w]; ok && other != [2]uint32{index, tag} {
				t.Fatalf("%v and (%d, %d) are both %d", other, index, tag, w)
			}
			seen[w] = [2]uint32{index, tag}
		}
	}
	// Each single bit of a word is kept.
	for b := range 64 {
		for _, w := range []uint64{1 << b, ^uint64(1 << b)} {
			if got := Word(Index(w), Tag(w)); got != w {
				t.Errorf("word %d is not its index and tag, but %d", w, got)
			}
		}
	}
}

func TestA3NextIsNew(t *testing.T) {
	// Go up to, and beyond, tags at which a carry may be lost, and 2^32 - 1, behind which tags go round.
	const steps = 1 << 11
	for _, tag := range edges() {
		for _, index := range []uint32{0, 7, last} {
			first := Word(index, tag-steps/2)
			seen := map[uint64]bool{first: true}
			for k, w := uint32(1), first; k < steps; k++ {
				w = Next(w, index)
				if seen[w] || Index(w) != index || Ahead(first, w) != k {
					t.Fatalf("from %d: Next no. %d is %d, %d ahead; seen: %v", first, k, w, Ahead(first, w), seen[w])
				}
				seen[w] = true
			}
		}
	}
}

// TestA3NextGoesRound: all 2^32 tags would take too long, so tags from the whole round are looked at: each but the last goes one up.
func TestA3NextGoesRound(t *testing.T) {
	for tag := uint64(0); tag < last; tag += 4099 {
		w := Word(3, uint32(tag))
		if n := Next(w, 3); n <= w || n-w != 1<<32 {
			t.Fatalf("Next of tag %d is %d", tag, Tag(n))
		}
	}
	if n := Next(Word(3, last), 3); n != Word(3, 0) {
		t.Errorf("Next of the last tag is %d, not 0", Tag(n))
	}
}

func TestP4SameAnswersAgain(t *testing.T) {
	w := Word(5, 1)
	Next(w, 7)
	Ahead(w, Word(9, 4))
	if Word(5, 1) != w || Index(w) != 5 || Tag(w) != 1 || Next(w, 7) != Word(7, 2) {
		t.Error("a call left something behind")
	}
}
