package glyph

import (
	"math"
	"math/rand/v2"
	"slices"
	"strconv"
	"strings"
	"testing"
	"unicode/utf8"

	"hatstand/api"
)

const last = 1<<64 - 1

// alike is whether two entries differ at most in whether no Args are nil or empty.
func alike(a, b Entry) bool {
	return a.Op == b.Op && slices.Equal(a.Args, b.Args) && a.OK == b.OK && a.At == b.At
}

// parses fails if a text's entries are not those.
func parses(t *testing.T, s string, want ...Entry) {
	t.Helper()
	if got := Parse(s); !slices.EqualFunc(got, want, alike) {
		t.Errorf("Parse(%q) is %v, not %v", s, got, want)
	}
}

// puts fails if entries are not put as that text.
func puts(t *testing.T, want string, l ...Entry) {
	t.Helper()
	if s, e := Put(l); s != want || e != api.OK {
		t.Errorf("Put(%v) tells %q, %d, not %q", l, s, e, want)
	}
}

// refuses fails if entries are put.
func refuses(t *testing.T, l ...Entry) {
	t.Helper()
	if s, e := Put(l); s != "" || e != api.ErrArg {
		t.Errorf("Put(%v) tells %q, %d", l, s, e)
	}
}

func good(op rune, at int, args ...uint64) Entry { return Entry{op, args, true, at} }

func bad(op rune, at int) Entry { return Entry{Op: op, At: at} }

func TestC1Examples(t *testing.T) {
	parses(t, "↑0,17 •0", good('↑', 0, 0, 17), good('•', 8, 0))
	parses(t, "↓01", bad('↓', 0))
}

func TestC1NothingAndBlanks(t *testing.T) {
	for _, s := range []string{"", " ", "\t", "\n", " \t\n \n\t"} {
		parses(t, s)
	}
	parses(t, "  p1", good('p', 2, 1))
	parses(t, "p1\n\t ", good('p', 0, 1))
	parses(t, "\tp\n\n•5 \t q0,1\n", good('p', 1), good('•', 4, 5), good('q', 11, 0, 1))
	parses(t, "pq\nr", good('p', 0), good('q', 1), good('r', 3))
}

// TestC1OtherSpaces: 9, 10 and 32 are blanks, and nothing else is, whatever Unicode thinks of it.
func TestC1OtherSpaces(t *testing.T) {
	for _, r := range []rune{0, 8, 11, 12, 13, 31, 33, 0x85, 0xa0, 0x1680, 0x2003, 0x2028, 0x3000, 0xfeff} {
		s := string(r)
		parses(t, "p"+s+"5 "+s, good('p', 0), good(r, 1, 5), good(r, 3+len(s)))
	}
}

func TestC1RunesOfManyBytes(t *testing.T) {
	for _, r := range []rune{
		'!', 'p', '/', ':', '+', '-', '.', '_', 127, // 1 byte
		128, 'é', 2047, // 2
		2048, '↑', 55295, 57344, 65532, 65533, 65534, 65535, // 3
		65536, '🎩', 1114111, // 4
		0x301, 0x660, 0xff10, 0xff0c, // marks, digits and commas that are none of a number's runes
	} {
		s := string(r)
		n := len(s)
		parses(t, s, good(r, 0))
		parses(t, s+"0,7"+s+s+"8", good(r, 0, 0, 7), good(r, n+3), good(r, 2*n+3, 8))
		parses(t, "p1"+s+"2", good('p', 0, 1), good(r, 2, 2))
		parses(t, s+"1,"+s+",2 "+s+"3", bad(r, 0), bad(r, n+2), good(r, 2*n+5, 3))
	}
}

func TestC1BytesThatBeginNone(t *testing.T) {
	for _, c := range []string{"\x80", "\xbf", "\xc0", "\xc1", "\xc2", "\xe2", "\xf0", "\xf5", "\xfe", "\xff"} {
		parses(t, c, good(65533, 0))
		parses(t, c+"7"+c+" "+c+"01p", good(65533, 0, 7), good(65533, 2), bad(65533, 4), good('p', 7))
	}
	for _, c := range []string{
		"\xe2\x86",         // an arrow's first two bytes
		"\xf0\x9f\x8e",     // a hat's first three bytes
		"\xed\xa0\x80",     // 55296
		"\xed\xbf\xbf",     // 57343
		"\xc0\x80",         // 0, written too long
		"\xe0\x80\xaf",     // a slash, written too long
		"\xf4\x90\x80\x80", // 1114112
		"\x86\x91",
	} {
		var want []Entry
		for at := range len(c) {
			want = append(want, good(65533, at))
		}
		parses(t, c, want...)
		want[len(c)-1].Args = []uint64{3, 4}
		parses(t, c+"3,4↑", append(want, good('↑', len(c)+3))...)
	}
	parses(t, "\xef\xbf\xbd1\xef2", good(65533, 0, 1), good(65533, 4, 2))
}

func TestC1Numbers(t *testing.T) {
	for _, n := range []uint64{0, 1, 9, 10, 19, 100, 1 << 32, 1<<63 - 1, 1 << 63, 1e19, 18446744073709551609, last - 1, last} {
		parses(t, "p"+strconv.FormatUint(n, 10), good('p', 0, n))
		parses(t, "p0,"+strconv.FormatUint(n, 10)+",3", good('p', 0, 0, n, 3))
	}
	for _, text := range []string{
		"00", "01", "007", "000", "0000000000000000000000001", "018446744073709551615",
		"18446744073709551616", "18446744073709551617", "18446744073709551625", "18446744073709551620", "20000000000000000000",
		"36893488147419103232", "99999999999999999999", "184467440737095516150", "184467440737095516160", "100000000000000000000",
		"340282366920938463463374607431768211456", "340282366920938463463374607431768211457", strings.Repeat("9", 1000), "1" + strings.Repeat("0", 1000),
	} {
		parses(t, "p"+text+"q", bad('p', 0), good('q', 1+len(text)))
		parses(t, "p"+text+",5 q1", bad('p', 0), good('q', 4+len(text), 1))
		parses(t, "p5,"+text, bad('p', 0))
		parses(t, "p5,"+text+",5", bad('p', 0))
	}
}

func TestC1Commas(t *testing.T) {
	for _, text := range []string{",", "1,", ",1", ",,", "1,,2", ",1,2", "1,2,", "1,2,,", ",,1", "0,", ",0"} {
		parses(t, "↓"+text, bad('↓', 0))
		parses(t, "↓"+text+"\n↓1", bad('↓', 0), good('↓', 4+len(text), 1))
	}
	many := strings.Repeat("8,", 5000) + "8"
	parses(t, "p"+many, good('p', 0, slices.Repeat([]uint64{8}, 5001)...))
	parses(t, "p"+many+",", bad('p', 0))
}

func TestC1EntryThatBeginsWithARuneOfNumbers(t *testing.T) {
	for _, s := range []string{"0", "9", ",", "7", "00", "7,8", ",,", ",1", "12", "18446744073709551616"} {
		op := rune(s[0])
		parses(t, s, bad(op, 0))
		parses(t, s+"p9", bad(op, 0), good('p', len(s), 9))
		parses(t, "p "+s+" q", good('p', 0), bad(op, 2), good('q', 3+len(s)))
		parses(t, "p1\n"+s+"\t5", good('p', 0, 1), bad(op, 3), bad('5', 4+len(s)))
	}
}

func TestC2Ordinary(t *testing.T) {
	puts(t, "")
	puts(t, "", []Entry{}...)
	puts(t, "p", good('p', 0))
	puts(t, "↑0,17•0", good('↑', 0, 0, 17), good('•', 8, 0))
	puts(t, "ppq1p", good('p', 0), good('p', 0), good('q', 0, 1), good('p', 0))
	puts(t, "p0,18446744073709551615,10,0", good('p', 0, 0, last, 10, 0))
	puts(t, "p"+strings.Repeat("7,", 3000)+"7", good('p', 0, slices.Repeat([]uint64{7}, 3001)...))
	puts(t, "p•", Entry{Op: 'p', Args: []uint64{}, OK: true}, good('•', 0))
	for _, r := range []rune{0, 8, 11, 13, 31, '!', '+', '-', '.', '/', ':', 127, 128, 0xa0, 2047, 2048, 0x2003, 55295, 57344, 65532, 65534, 65535, 65536, '🎩', 1114111, 0x660} {
		puts(t, "↑1"+string(r)+"2"+string(r), good('↑', 0, 1), good(r, 0, 2), good(r, 0))
	}
}

func TestC2AtIsNotLookedAt(t *testing.T) {
	for _, at := range []int{math.MinInt, -1, 0, 1, 1 << 40, math.MaxInt} {
		puts(t, "↑5p", good('↑', at, 5), good('p', at))
	}
}

func TestC2NotOK(t *testing.T) {
	refuses(t, bad('p', 0))
	refuses(t, Entry{})
	refuses(t, Entry{Op: 'p', Args: []uint64{1}})
	refuses(t, good('p', 0), bad('q', 1))
	refuses(t, bad('q', 0), good('p', 1))
	refuses(t, good('p', 0), bad('q', 1), good('r', 2))
	refuses(t, bad('7', 0))
}

func TestC2OpThatMayNotBe(t *testing.T) {
	ops := []rune{9, 10, 32, ',', 65533, -1, -2, 55296, 55297, 56319, 56320, 57342, 57343, 1114112, 1114113, math.MaxInt32, math.MinInt32, math.MinInt32 + 'p'}
	for r := '0'; r <= '9'; r++ {
		ops = append(ops, r)
	}
	for _, r := range ops {
		refuses(t, good(r, 0))
		refuses(t, good(r, 0, 1, 2))
		refuses(t, good('p', 0, 1), good(r, 2, 3))
		refuses(t, good(r, 0), good('p', 1))
		refuses(t, good('p', 0), good(r, 0), good('q', 0))
	}
}

// wanted are a text's entries, found in another way: by cutting it.
func wanted(s string) []Entry {
	var l []Entry
	for at := 0; at < len(s); {
		op, size := utf8.DecodeRuneInString(s[at:])
		if strings.ContainsRune("\t\n ", op) {
			at += size
			continue
		}
		rest := s[at+size:]
		text := rest[:len(rest)-len(strings.TrimLeft(rest, "0123456789,"))]
		l = append(l, wantedEntry(op, text, at))
		at += size + len(text)
	}
	return l
}

func wantedEntry(op rune, text string, at int) Entry {
	if strings.ContainsRune("0123456789,", op) {
		return bad(op, at)
	}
	if text == "" {
		return good(op, at)
	}
	var args []uint64
	for part := range strings.SplitSeq(text, ",") {
		n, err := strconv.ParseUint(part, 10, 64)
		if err != nil || part != strconv.FormatUint(n, 10) {
			return bad(op, at)
		}
		args = append(args, n)
	}
	return good(op, at, args...)
}

func TestC1AnyText(t *testing.T) {
	parts := []string{" ", "\t", "\n", "0", "1", "9", ",", "p", "↑", "•", "🎩", "é", "\xff", "\xe2", "\x86", "\x91", "\r", "-", "+", "_", "1844674407370955161", "5", "6", "\ufffd"}
	r := rand.New(rand.NewPCG(3, 1))
	for range 20000 {
		var text strings.Builder
		for range r.IntN(12) {
			text.WriteString(parts[r.IntN(len(parts))])
		}
		parses(t, text.String(), wanted(text.String())...)
	}
	for range 5000 {
		text := make([]byte, r.IntN(9))
		for i := range text {
			text[i] = byte(r.UintN(256))
		}
		parses(t, string(text), wanted(string(text))...)
	}
}

// drawn are entries that may be put.
func drawn(r *rand.Rand) []Entry {
	ops := []rune{0, 'p', '↑', '↓', '•', '🎩', 'é', 13, 0xa0, 65532, 65534, 55295, 57344, 1114111}
	numbers := []uint64{0, 1, 9, 10, 17, 1 << 32, 1 << 63, last}
	var l []Entry
	for range r.IntN(7) {
		e := good(ops[r.IntN(len(ops))], r.IntN(9)-4)
		for range r.IntN(4) {
			e.Args = append(e.Args, numbers[r.IntN(len(numbers))])
		}
		l = append(l, e)
	}
	return l
}

func TestC3PutIsParsedAgain(t *testing.T) {
	r := rand.New(rand.NewPCG(3, 2))
	for range 3000 {
		l := drawn(r)
		s, e := Put(l)
		if e != api.OK {
			t.Fatalf("Put(%v) tells %d", l, e)
		}
		at := 0
		for i := range l {
			l[i].At = at
			alone, _ := Put(l[i : i+1])
			at += len(alone)
		}
		if at != len(s) {
			t.Fatalf("Put(%v) tells %q, which is longer or shorter than its entries", l, s)
		}
		parses(t, s, l...)
	}
}

func TestC3BlanksChangeAtAlone(t *testing.T) {
	r := rand.New(rand.NewPCG(3, 3))
	blanks := func() string {
		var b strings.Builder
		for range r.IntN(4) {
			b.WriteByte("\t\n "[r.IntN(3)])
		}
		return b.String()
	}
	for range 3000 {
		l := drawn(r)
		text := blanks()
		for i := range l {
			l[i].At = len(text)
			alone, _ := Put(l[i : i+1])
			text += alone + blanks()
		}
		parses(t, text, l...)
		tight, _ := Put(l)
		if again, e := Put(Parse(text)); again != tight || e != api.OK {
			t.Fatalf("%q is put again as %q, %d, not %q", text, again, e, tight)
		}
	}
}

func TestP3NothingIsShared(t *testing.T) {
	room := []uint64{4, 5, 6, 7}
	given := []Entry{good('p', 3, room[:2]...), good('q', 9), good('r', 0)}
	given[1].Args = room[:0]
	puts(t, "p4,5q", given[:2]...)
	if !slices.Equal(room, []uint64{4, 5, 6, 7}) || !slices.EqualFunc(given, []Entry{good('p', 3, 4, 5), good('q', 9), good('r', 0)}, alike) {
		t.Errorf("what was handed in is %v, %v", given, room)
	}
	const text = "p1,2,3q4r5,6"
	l := Parse(text)
	for i := range l {
		_ = append(l[i].Args, 99)
		l[i].Args[0] = uint64(i) * 100
	}
	_ = append(l[:1], Entry{})
	want := []Entry{good('p', 0, 0, 2, 3), {}, good('r', 8, 200, 6)}
	if !slices.EqualFunc(l, want, alike) {
		t.Errorf("an answer's lists are %v, not %v", l, want)
	}
	parses(t, text, good('p', 0, 1, 2, 3), good('q', 6, 4), good('r', 8, 5, 6))
}
