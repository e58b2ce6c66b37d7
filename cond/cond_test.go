package cond_test

import (
	"math"
	"math/bits"
	"slices"
	"strconv"
	"strings"
	"testing"

	"strainer/api"
	"strainer/cond"
)

// masked is the operator that has a mask.
const masked = 7

// signs tells the document's operators.
func signs() map[int]string {
	return map[int]string{1: "==", 2: "!=", 3: "<", 4: "<=", 5: ">", 6: ">=", masked: "&"}
}

// edges are numbers whose comparisons go wrong, if they have a sign, or 32 bits.
var edges = []uint64{0, 1, 2, 3, 5, 6, 255, 1<<31 - 1, 1 << 31, 1<<31 + 1, 1<<32 - 1, 1 << 32, 1<<32 + 1, 1<<32 + 5, 1<<63 - 1, 1 << 63, 1<<63 + 1, 1<<63 + 1<<31, 0xf1e2d3c4b5a69788, math.MaxUint64 - 1, math.MaxUint64}

// wrong are ints that are no operators and no arguments; some of them are one in their lower half, or lowest byte.
var wrong = []int{-1, -2, -7, -256, 8, 9, 10, 14, 256, 257, 263, 1 << 16, 1<<16 + 1, 1 << 32, 1<<32 + 1, 1<<32 + 5, math.MinInt, math.MinInt + 1, math.MinInt32, math.MaxInt - 1, math.MaxInt}

// right goes through conditions that may be.
func right(yield func(cond.Cond) bool) {
	for arg := range 6 {
		for op := range signs() {
			for _, value := range edges {
				if op != masked && !yield(cond.Cond{Arg: arg, Op: op, Value: value}) {
					return
				}
				for _, mask := range edges {
					if op == masked && !yield(cond.Cond{Arg: arg, Op: op, Mask: mask, Value: value}) {
						return
					}
				}
			}
		}
	}
}

// text tells a condition's text, by the document's row of its operator.
func text(c cond.Cond) string {
	words := []string{"a" + strconv.Itoa(c.Arg), signs()[c.Op]}
	if c.Op == masked {
		words = append(words, strconv.FormatUint(c.Mask, 10), "==")
	}
	return strings.Join(append(words, strconv.FormatUint(c.Value, 10)), " ")
}

// P10.1: an argument from 0 to 5, an operator from 1 to 7, a mask of the last one alone.
func TestRight(t *testing.T) {
	many := 0
	for c := range right {
		many++
		if !cond.Right(c) {
			t.Errorf("%v may not be", c)
		}
	}
	if n := len(edges); many != 6*(6*n+n*n) {
		t.Fatalf("%d conditions", many)
	}
}

// mayNot holds the calls to a condition that may not be: it has no text, and does not hold; of no argument there is a panic (R1).
func mayNot(t *testing.T, c cond.Cond) {
	t.Helper()
	for _, args := range [][6]uint64{{}, {7, 7, 7, 7, 7, 7}, {math.MaxUint64, 0, 1}} {
		if cond.Holds(c, args) || cond.All([]cond.Cond{c}, args) {
			t.Errorf("%v holds", c)
		}
	}
	if cond.Right(c) {
		t.Errorf("%v may be", c)
	}
	if s := cond.Text(c); s != "" {
		t.Errorf("Text of %v: %q", c, s)
	}
}

// P10.1: an argument that is none, an operator that is none, a mask that has nothing to do.
func TestWrong(t *testing.T) {
	mayNot(t, cond.Cond{})
	for _, n := range wrong {
		for _, other := range []int{0, 1, 2, 5, 6, 7} {
			mayNot(t, cond.Cond{Arg: other, Op: n})
			mayNot(t, cond.Cond{Arg: n, Op: other})
		}
	}
	for arg := range 7 {
		mayNot(t, cond.Cond{Arg: arg, Op: 0})
	}
	for op := range 9 {
		mayNot(t, cond.Cond{Arg: 6, Op: op})
		mayNot(t, cond.Cond{Arg: 7, Op: op, Mask: 1})
		for _, mask := range edges {
			if op != masked && mask != 0 {
				mayNot(t, cond.Cond{Op: op, Mask: mask})
				mayNot(t, cond.Cond{Arg: 5, Op: op, Mask: mask, Value: mask})
			}
		}
	}
}

// reads holds Read to a condition, alone and with other words behind it, and Text to the words.
func reads(t *testing.T, s string, want cond.Cond) {
	t.Helper()
	words := strings.Split(s, " ")
	for _, behind := range [][]string{nil, {""}, {"and"}, {"and", "a1", "==", "2"}, {"=="}, {"==", "1"}, {"&", "1", "==", "1"}, {"0"}, {"\xff", "\n"}} {
		l := append(slices.Clone(words), behind...)
		if c, n, e := cond.Read(l); c != want || n != len(words) || e != api.OK {
			t.Errorf("Read of %q: %v, %d, %d; not %v", l, c, n, e, want)
		}
	}
}

// P10.1, P10.2: texts by hand, there and back.
func TestByHand(t *testing.T) {
	for s, want := range map[string]cond.Cond{
		"a0 == 5":                        {Arg: 0, Op: 1, Value: 5},
		"a1 != 0":                        {Arg: 1, Op: 2},
		"a2 < 10":                        {Arg: 2, Op: 3, Value: 10},
		"a3 <= 18446744073709551615":     {Arg: 3, Op: 4, Value: math.MaxUint64},
		"a4 > 4294967296":                {Arg: 4, Op: 5, Value: 1 << 32},
		"a5 >= 9223372036854775808":      {Arg: 5, Op: 6, Value: 1 << 63},
		"a1 & 3 == 2":                    {Arg: 1, Op: 7, Mask: 3, Value: 2},
		"a5 & 0 == 0":                    {Arg: 5, Op: 7},
		"a0 & 18446744073709551615 == 9": {Arg: 0, Op: 7, Mask: math.MaxUint64, Value: 9},
		"a0 & 1 == 2":                    {Arg: 0, Op: 7, Mask: 1, Value: 2},
	} {
		reads(t, s, want)
		if got := cond.Text(want); got != s {
			t.Errorf("Text of %v: %q, not %q", want, got, s)
		}
	}
	// Numbers behind 0x are read, but not told.
	reads(t, "a0 == 0x0", cond.Cond{Op: 1})
	reads(t, "a0 != 0xff", cond.Cond{Op: 2, Value: 255})
	reads(t, "a0 & 0x8000000000000000 == 12", cond.Cond{Op: 7, Mask: 1 << 63, Value: 12})
	reads(t, "a0 & 12 == 0xffffffffffffffff", cond.Cond{Op: 7, Mask: 12, Value: math.MaxUint64})
	reads(t, "a0 & 0xa == 0x2", cond.Cond{Op: 7, Mask: 10, Value: 2})
}

// holds tells whether a right condition does, without comparing: by what is borrowed, and by bits, one by one.
func holds(c cond.Cond, n uint64) bool {
	_, below := bits.Sub64(n, c.Value, 0)
	_, above := bits.Sub64(c.Value, n, 0)
	switch c.Op {
	case 1:
		return below+above == 0
	case 2:
		return below+above == 1
	case 3:
		return below == 1
	case 4:
		return above == 0
	case 5:
		return above == 1
	case 6:
		return below == 0
	}
	for bit := range 64 {
		if n>>bit&(c.Mask>>bit)&1 != c.Value>>bit&1 {
			return false
		}
	}
	return true
}

// P10.1: conditions hold by the numbers' whole 64 bits, without a sign, of their own argument alone.
func TestHolds(t *testing.T) {
	for c := range right {
		for _, n := range edges {
			for _, other := range []uint64{0, c.Value, math.MaxUint64} {
				args := [6]uint64{other, other, other, other, other, other}
				args[c.Arg] = n
				if cond.Holds(c, args) != holds(c, n) {
					t.Errorf("%s of %d, %d else: %t", text(c), n, other, !holds(c, n))
				}
			}
		}
	}
}

// P10.1: by hand, each operator at its edge, and the document's example.
func TestHoldsByHand(t *testing.T) {
	args := [6]uint64{5, 6, 0, math.MaxUint64, 1 << 32, 1 << 63}
	for s, want := range map[string]bool{
		"a0 == 5": true, "a0 == 4": false, "a0 == 4294967301": false, "a4 == 0": false, "a4 == 4294967296": true,
		"a0 != 5": false, "a0 != 6": true, "a4 != 0": true,
		"a0 < 5": false, "a0 < 6": true, "a2 < 0": false, "a2 < 1": true, "a3 < 0": false, "a5 < 9223372036854775807": false, "a5 < 9223372036854775809": true,
		"a0 <= 4": false, "a0 <= 5": true, "a0 <= 6": true, "a3 <= 18446744073709551614": false, "a3 <= 18446744073709551615": true, "a4 <= 5": false,
		"a0 > 4": true, "a0 > 5": false, "a0 > 6": false, "a3 > 0": true, "a3 > 18446744073709551615": false, "a5 > 0": true, "a4 > 1": true,
		"a0 >= 4": true, "a0 >= 5": true, "a0 >= 6": false, "a2 >= 0": true, "a2 >= 1": false, "a5 >= 1": true,
		"a1 & 3 == 2": true, "a1 & 3 == 3": false, "a1 & 3 == 6": false, "a1 & 7 == 6": true, "a1 & 1 == 0": true, "a1 & 0 == 0": true, "a1 & 0 == 1": false, "a4 & 4294967295 == 0": true, "a4 & 4294967296 == 4294967296": true, "a5 & 9223372036854775808 == 9223372036854775808": true,
	} {
		c, _, e := cond.Read(strings.Split(s, " "))
		if e != api.OK || cond.Holds(c, args) != want {
			t.Errorf("%s: %t, %d", s, !want, e)
		}
	}
}

// P10.1, R3: of none all hold; one that does not, wherever it stands, is enough.
func TestAll(t *testing.T) {
	args := [6]uint64{1, 2, 3, 4, 5, 6}
	if !cond.All(nil, args) || !cond.All([]cond.Cond{}, args) || !cond.All(make([]cond.Cond, 0, 3), args) {
		t.Error("of none all do not hold")
	}
	var l []cond.Cond
	for arg := range 6 {
		l = append(l, cond.Cond{Arg: arg, Op: 1, Value: uint64(arg) + 1})
	}
	for many := range len(l) + 1 {
		if !cond.All(l[:many], args) {
			t.Errorf("the first %d do not hold", many)
		}
		for at := range many {
			other := slices.Clone(l[:many])
			other[at].Op = 2
			if cond.All(other, args) {
				t.Errorf("of %d all hold, without %d", many, at)
			}
			other[at].Op = 8
			if cond.All(other, args) {
				t.Errorf("of %d all hold, though %d may not be", many, at)
			}
		}
	}
}

// refuses holds Read to an error, with no condition and no words beside it (R2).
func refuses(t *testing.T, words []string, want api.Errno) {
	t.Helper()
	if c, n, e := cond.Read(words); c != (cond.Cond{}) || n != 0 || e != want {
		t.Errorf("Read of %q: %v, %d, %d; not error %d", words, c, n, e, want)
	}
}

// P10.2, R3: no words.
func TestReadNone(t *testing.T) {
	refuses(t, nil, api.ErrEmpty)
	refuses(t, []string{}, api.ErrEmpty)
	refuses(t, make([]string, 0, 4), api.ErrEmpty)
}

// P10.2: plain digits that are no argument, whatever stands behind them, nothing, too; what is no word of plain digits has no form.
func TestReadArgument(t *testing.T) {
	for _, digits := range []string{"6", "7", "8", "9", "10", "15", "50", "00", "01", "05", "06", "000", "0000000000", "255", "256", "4294967296", "18446744073709551616", "18446744073709551621", "99999999999999999999999", strings.Repeat("0", 500), strings.Repeat("9", 500)} {
		for _, behind := range [][]string{nil, {"=="}, {"==", "1"}, {"==", "x"}, {"=", "1"}, {"&", "1", "==", "1"}, {"&", "1"}, {""}} {
			refuses(t, append([]string{"a" + digits}, behind...), api.ErrRange)
		}
	}
	for _, first := range []string{"", "a", "aa", "A0", "b0", "0", "1", "6", "x0", " a0", "a 0", "a0 ", "a0\n", "a0\x00", "a-0", "a-1", "a+1", "a+0", "aa0", "a0a", "a6a", "a9x", "a60x", "a0x1", "a0x6", "a1_0", "a1.0", "a1e1", "a\u0661", "a\uff11", "a\xff", "a0\xff", "\xffa0", "arg0", "a[0]", "a0==5", "a0==", "and", "if", "a/", "a:", "a;"} {
		for _, behind := range [][]string{nil, {"=="}, {"==", "1"}, {"&", "1", "==", "1"}} {
			refuses(t, append([]string{first}, behind...), api.ErrForm)
		}
	}
}

// P10.2: a word is missing, or it is no operator, or no number.
func TestReadForm(t *testing.T) {
	refuses(t, []string{"a0 == 1"}, api.ErrForm)
	for _, s := range []string{"a0", "a5", "a0 ==", "a0 !=", "a0 >=", "a0 &", "a0 & 1", "a0 & 1 ==", "a0 1", "a0 1 ==", "a0 & == 1", "a0 & 1 == x", "a0 & x == 1", "a0 & 01 == 1", "a0 & 1 == 01", "a0 & 1 == -1", "a0 & 0x == 1", "a0 & 1 == 18446744073709551616", "a0 & 18446744073709551616 == 0", "a0 == a1", "a0 == == 1", "a0 & 1 == and", "a0  == 1", "== a0 1", "== 1", "5 == a0"} {
		refuses(t, strings.Split(s, " "), api.ErrForm)
	}
	for _, sign := range []string{"", "=", "===", "!", "=!", "<>", "><", "=<", "=>", "<<", ">>", "!==", "~=", "eq", "is", "in", "&&", "&=", "|", "^", "and", "== ", " ==", "==\n", "\xff", "1", "7", "==1", "&1"} {
		refuses(t, []string{"a0", sign, "1"}, api.ErrForm)
		refuses(t, []string{"a0", sign, "1", "==", "1"}, api.ErrForm)
		if sign != "==" {
			refuses(t, []string{"a0", "&", "1", sign, "1"}, api.ErrForm)
		}
	}
	for _, sign := range []string{"!=", "<", "<=", ">", ">=", "&"} {
		refuses(t, []string{"a0", "&", "1", sign, "1"}, api.ErrForm)
	}
	for _, s := range noNumbers {
		for _, sign := range []string{"==", "!=", "<", "<=", ">", ">="} {
			refuses(t, []string{"a0", sign, s}, api.ErrForm)
			refuses(t, []string{"a0", sign, s, "==", "1"}, api.ErrForm)
		}
		refuses(t, []string{"a0", "&", s, "==", "0"}, api.ErrForm)
		refuses(t, []string{"a0", "&", "1", "==", s}, api.ErrForm)
	}
}

// noNumbers are no numbers' texts.
var noNumbers = []string{"", " ", "0x", "x", "x1", "00", "01", "007", "0000", "0x00", "0x01", "0x0f", "0x0ff", "0X1", "0XFF", "0xF", "0xfF", "0xFF", "0xg", "0x-1", "0x+1", "0x 1", "0x1 ", "0x1_0", "0x0x1", "x0x1", "0x1.", "ff", "a", "f", "-1", "+1", "-0", "+0", "-", "+", "--1", " 1", "1 ", "1\n", "\t1", "1\x00", "1_0", "1_000", "1e3", "1.0", "1.", ".1", "1,", "0b1", "0o7", "0d1", "08", "010", "1a", "1f", "one", "\u0661", "\uff11", "\xff", "1\xff", "18446744073709551616", "18446744073709551617", "18446744073709551625", "20000000000000000000", "99999999999999999999", "184467440737095516150", "340282366920938463463374607431768211455", "0x10000000000000000", "0x1ffffffffffffffff", "0xfffffffffffffffff", "018446744073709551615", "0x0ffffffffffffffff", strings.Repeat("1", 1000), strings.Repeat("0", 1000), "0x" + strings.Repeat("f", 1000)}

// P10.2: numbers' texts, in decimal and behind 0x; of others 0 and false.
func TestNumber(t *testing.T) {
	for s, want := range map[string]uint64{"0": 0, "0x0": 0, "1": 1, "0x1": 1, "9": 9, "10": 10, "0x9": 9, "0xa": 10, "0xf": 15, "0x10": 16, "100": 100, "0x100": 256, "0xff": 255, "0x7b": 123, "123": 123, "0xabcdef": 0xabcdef, "0x1234567890abcdef": 0x1234567890abcdef, "4294967295": 1<<32 - 1, "4294967296": 1 << 32, "0x100000000": 1 << 32, "9223372036854775807": 1<<63 - 1, "9223372036854775808": 1 << 63, "0x8000000000000000": 1 << 63, "18446744073709551615": math.MaxUint64, "18446744073709551614": math.MaxUint64 - 1, "0xffffffffffffffff": math.MaxUint64, "10000000000000000000": 10000000000000000000} {
		if n, ok := cond.Number(s); n != want || !ok {
			t.Errorf("Number %q: %d, %t; not %d", s, n, ok, want)
		}
	}
	for _, s := range noNumbers {
		if n, ok := cond.Number(s); n != 0 || ok {
			t.Errorf("Number %q: %d, %t", s, n, ok)
		}
	}
	for bit := range 64 {
		for _, want := range []uint64{1 << bit, 1<<bit - 1, ^uint64(1 << bit), uint64(bit) * 0x9e3779b97f4a7c15} {
			for _, s := range []string{strconv.FormatUint(want, 10), "0x" + strconv.FormatUint(want, 16)} {
				if n, ok := cond.Number(s); n != want || !ok {
					t.Errorf("Number %q: %d, %t", s, n, ok)
				}
			}
		}
	}
}

// P10.3: of an operator and its opposite just one holds.
func TestOpposites(t *testing.T) {
	for _, pair := range [][2]int{{1, 2}, {3, 6}, {4, 5}} {
		for arg := range 6 {
			for _, value := range edges {
				for _, n := range edges {
					var args [6]uint64
					args[arg] = n
					one := cond.Holds(cond.Cond{Arg: arg, Op: pair[0], Value: value}, args)
					other := cond.Holds(cond.Cond{Arg: arg, Op: pair[1], Value: value}, args)
					if one == other {
						t.Errorf("%v of a%d and %d, of %d: %t both", pair, arg, value, n, one)
					}
				}
			}
		}
	}
}

// P10.1, P10.3: what is told is read as it was, and no two conditions have one text.
func TestThereAndBack(t *testing.T) {
	byText := map[string]cond.Cond{}
	for c := range right {
		s := cond.Text(c)
		if s != text(c) {
			t.Errorf("Text of %v: %q, not %q", c, s, text(c))
		}
		if b, twice := byText[s]; twice {
			t.Errorf("%v and %v have the text %q", b, c, s)
		}
		byText[s] = c
		words := strings.Split(s, " ")
		if b, n, e := cond.Read(words); b != c || n != len(words) || e != api.OK {
			t.Errorf("%v, told %q, read: %v, %d, %d", c, s, b, n, e)
		}
	}
}

// P10.2: what is read of any words may be, and is told by the words that were read.
func TestReadIsTold(t *testing.T) {
	words := []string{"a0", "a5", "a6", "==", "<", "&", "0", "7", "01", "and", ""}
	read := 0
	many := len(words)
	for n := range many * many * many * many * many {
		var l []string
		for at := n; len(l) < 5; at /= many {
			l = append(l, words[at%many])
		}
		c, used, e := cond.Read(l)
		if e != api.OK {
			continue
		}
		read++
		if !cond.Right(c) || cond.Text(c) != strings.Join(l[:used], " ") {
			t.Errorf("Read of %q: %v, told %q", l, c, cond.Text(c))
		}
	}
	// An argument, a sign without a mask, a number, and two words more; or one with a mask.
	if want := 2*2*2*many*many + 2*2*2; read != want {
		t.Errorf("%d were read, not %d", read, want)
	}
}

// R4: the words that are handed in, and the room behind them, are neither changed nor looked at. R5: asked again, the same.
func TestHandedIn(t *testing.T) {
	whole := []string{"a1", "&", "3", "==", "2", "and", "a6", "a0", "==", "5", "1"}
	was := slices.Clone(whole)
	for range 20 {
		for from := range whole {
			for to := from; to <= len(whole); to++ {
				a, n, e := cond.Read(whole[from:to])
				b, m, f := cond.Read(slices.Clone(was[from:to]))
				if a != b || n != m || e != f || !slices.Equal(whole, was) {
					t.Fatalf("Read of %q: %v, %d, %d; and %v, %d, %d; %q", was[from:to], a, n, e, b, m, f, whole)
				}
			}
		}
	}
	refuses(t, whole[:4], api.ErrForm)
	refuses(t, whole[7:9], api.ErrForm)
	refuses(t, whole[:0], api.ErrEmpty)
	conds := []cond.Cond{{Op: 1}, {Op: 2}, {Op: 9}}
	if !cond.All(conds[:1], [6]uint64{}) || !slices.Equal(conds, []cond.Cond{{Op: 1}, {Op: 2}, {Op: 9}}) {
		t.Errorf("All looks behind a list, or changes it: %v", conds)
	}
}
