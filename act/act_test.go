package act_test

import (
	"math"
	"slices"
	"strconv"
	"strings"
	"testing"

	"strainer/act"
	"strainer/api"
)

// Kinds that have a number.
const (
	errno = 4
	trace = 6
)

// rows tells the document's table: of each kind its word, its code with the number 0, and the greatest number.
func rows() []row {
	return []row{
		{1, "kill", 0x80000000, 0},
		{2, "kill_thread", 0, 0},
		{3, "trap", 0x00030000, 0},
		{errno, "errno", 0x00050000, 4095},
		{5, "notify", 0x7fc00000, 0},
		{trace, "trace", 0x7ff00000, 65535},
		{7, "log", 0x7ffc0000, 0},
		{8, "allow", 0x7fff0000, 0},
	}
}

type row struct {
	kind int
	word string
	code uint32
	most int
}

// told is an action's code and its text.
type told struct {
	code uint32
	text string
}

// all goes through all actions that may be, with the codes and the texts that the document gives them.
func all(yield func(act.Action, told) bool) {
	for _, r := range rows() {
		for n := range r.most + 1 {
			text := r.word
			if r.most > 0 {
				text += " " + strconv.Itoa(n)
			}
			if !yield(act.Action{Kind: r.kind, Number: n}, told{r.code + uint32(n), text}) {
				return
			}
		}
	}
}

// may holds the calls to an action that may be.
func may(t *testing.T, a act.Action, code uint32, text string) {
	t.Helper()
	if !act.Right(a) {
		t.Errorf("%v may not be", a)
	}
	if c, e := act.Code(a); c != code || e != api.OK {
		t.Errorf("Code of %v: %#x, %d; not %#x", a, c, e, code)
	}
	if b, e := act.From(code); b != a || e != api.OK {
		t.Errorf("From %#x: %v, %d; not %v", code, b, e, a)
	}
	if s := act.Text(a); s != text {
		t.Errorf("Text of %v: %q, not %q", a, s, text)
	}
}

// P9.1: the document's rows, with the least and the greatest numbers; and its example.
func TestByHand(t *testing.T) {
	may(t, act.Action{Kind: 1}, 0x80000000, "kill")
	may(t, act.Action{Kind: 2}, 0, "kill_thread")
	may(t, act.Action{Kind: 3}, 0x00030000, "trap")
	may(t, act.Action{Kind: 4}, 0x00050000, "errno 0")
	may(t, act.Action{Kind: 4, Number: 1}, 0x00050001, "errno 1")
	may(t, act.Action{Kind: 4, Number: 13}, 0x0005000d, "errno 13")
	may(t, act.Action{Kind: 4, Number: 4095}, 0x00050fff, "errno 4095")
	may(t, act.Action{Kind: 5}, 0x7fc00000, "notify")
	may(t, act.Action{Kind: 6}, 0x7ff00000, "trace 0")
	may(t, act.Action{Kind: 6, Number: 4096}, 0x7ff01000, "trace 4096")
	may(t, act.Action{Kind: 6, Number: 65535}, 0x7ff0ffff, "trace 65535")
	may(t, act.Action{Kind: 7}, 0x7ffc0000, "log")
	may(t, act.Action{Kind: 8}, 0x7fff0000, "allow")
}

// P9.1: all actions that may be.
func TestAll(t *testing.T) {
	many := 0
	for a, w := range all {
		may(t, a, w.code, w.text)
		many++
	}
	if many != 6+4096+65536 {
		t.Errorf("%d actions", many)
	}
}

// mayNot holds the calls to an action that may not be: no code beside the error (R2), no text.
func mayNot(t *testing.T, kind, number int) {
	t.Helper()
	a := act.Action{Kind: kind, Number: number}
	if act.Right(a) {
		t.Errorf("%v may be", a)
	}
	if c, e := act.Code(a); c != 0 || e != api.ErrRange {
		t.Errorf("Code of %v: %#x, %d", a, c, e)
	}
	if s := act.Text(a); s != "" {
		t.Errorf("Text of %v: %q", a, s)
	}
}

// P9.1: a kind that is none, a number that is too great or too small, a number of a kind that has none.
func TestWrongActions(t *testing.T) {
	for _, kind := range []int{0, -1, -4, -6, -8, 9, 10, 12, 14, 16, 256 + 4, 1 << 16, 1<<32 + 1, 1<<32 + 4, math.MinInt, math.MinInt + 4, math.MaxInt - 1, math.MaxInt} {
		for _, number := range []int{0, 1, -1, 13, 4095, 65535, math.MinInt, math.MaxInt} {
			mayNot(t, kind, number)
		}
	}
	wrong := []int{-1, -2, -4095, -4096, -65535, -65536, 65536, 65537, 131072, 1 << 20, 1 << 31, 1<<31 - 1, 1 << 32, 1<<32 + 1, 1<<32 - 1, 1 << 62, -1 << 31, -1 << 32, math.MinInt, math.MinInt + 1, math.MaxInt - 1, math.MaxInt}
	for _, r := range rows() {
		for _, number := range append(wrong, r.most+1, r.most+2, 2*r.most+2) {
			mayNot(t, r.kind, number)
		}
	}
	for n := 4096; n <= 65535; n += 59 {
		mayNot(t, errno, n)
	}
}

// codes tells the actions by the codes that have one.
func codes() map[uint32]act.Action {
	l := map[uint32]act.Action{}
	for a, w := range all {
		l[w.code] = a
	}
	return l
}

// P9.1: of a code that is no action's an error, and no action beside it (R2): with each higher half the edges of the lower ones.
func TestCodes(t *testing.T) {
	known := codes()
	for high := range uint32(1 << 16) {
		for _, low := range []uint32{0, 1, 0x0fff, 0x1000, 0x7fff, 0x8000, 0xffff} {
			code := high<<16 | low
			want, is := known[code]
			e := api.OK
			if !is {
				e = api.ErrCode
			}
			if a, got := act.From(code); a != want || got != e {
				t.Errorf("From %#x: %v, %d; not %v, %d", code, a, got, want, e)
			}
		}
	}
	for _, code := range []uint32{2, 0xffffffff, 0x7fffffff, 0x80000001, 0x0002ffff, 0x00030001, 0x0004ffff, 0x00051000, 0x0005ffff, 0x7fbfffff, 0x7fc00001, 0x7fefffff, 0x7ff10000, 0x7ffbffff, 0x7ffc0001, 0x7ffeffff, 0x7fff0001} {
		if a, e := act.From(code); a != (act.Action{}) || e != api.ErrCode {
			t.Errorf("From %#x: %v, %d", code, a, e)
		}
	}
}

// reads holds Read to an answer; words behind the action change nothing.
func reads(t *testing.T, text string, want act.Action, many int, e api.Errno) {
	t.Helper()
	words := strings.Split(text, " ")
	if a, n, got := act.Read(words); a != want || n != many || got != e {
		t.Errorf("Read of %q: %v, %d, %d; not %v, %d, %d", words, a, n, got, want, many, e)
	}
}

// P9.2: actions, alone and with other words behind them; a number behind a kind that has none is such a word.
func TestRead(t *testing.T) {
	for _, c := range []struct {
		text string
		want act.Action
		many int
	}{
		{"kill", act.Action{Kind: 1}, 1}, {"kill_thread", act.Action{Kind: 2}, 1}, {"trap", act.Action{Kind: 3}, 1}, {"notify", act.Action{Kind: 5}, 1}, {"log", act.Action{Kind: 7}, 1}, {"allow", act.Action{Kind: 8}, 1},
		{"errno 0", act.Action{Kind: 4}, 2}, {"errno 7", act.Action{Kind: 4, Number: 7}, 2}, {"errno 13", act.Action{Kind: 4, Number: 13}, 2}, {"errno 4095", act.Action{Kind: 4, Number: 4095}, 2},
		{"trace 0", act.Action{Kind: 6}, 2}, {"trace 10", act.Action{Kind: 6, Number: 10}, 2}, {"trace 4096", act.Action{Kind: 6, Number: 4096}, 2}, {"trace 65535", act.Action{Kind: 6, Number: 65535}, 2},
	} {
		reads(t, c.text, c.want, c.many, api.OK)
		for _, behind := range []string{"if", "if a0 == 1", "5", "99999999999", "kill", "errno 1", "", "\xff"} {
			reads(t, c.text+" "+behind, c.want, c.many, api.OK)
		}
	}
}

// P9.2, R2: what is no action's text, and no action and no words beside it.
func TestWrongWords(t *testing.T) {
	for _, words := range [][]string{nil, {}, make([]string, 0, 4)} {
		if a, n, e := act.Read(words); a != (act.Action{}) || n != 0 || e != api.ErrEmpty {
			t.Errorf("Read of no words: %v, %d, %d", a, n, e)
		}
	}
	for _, first := range []string{"", "deny", "Kill", "KILL", "kil", "killl", "kill_", "kill-thread", "killthread", "kill_threads", "errn", "errno1", "errno=1", "Errno", "traces", "tracer", "allowed", "allow,", "logs", "lo", "4", "1", "if", "default", "\xff", "allow\n", "\tallow", "kill\x00"} {
		reads(t, first, act.Action{}, 0, api.ErrName)
		reads(t, first+" 1", act.Action{}, 0, api.ErrName)
		reads(t, first+" allow", act.Action{}, 0, api.ErrName)
	}
	if a, n, e := act.Read([]string{"errno 1"}); a != (act.Action{}) || n != 0 || e != api.ErrName {
		t.Errorf("Read of one word with a blank: %v, %d, %d", a, n, e)
	}
}

// P9.2: a number that is missing, that is none, and one that is too great; nine digits are a number, ten none.
func TestWrongNumbers(t *testing.T) {
	form := []string{"", "if", "x", "a", "-1", "+1", "-0", "+0", "-", "+", "00", "01", "013", "0000", "000000001", "0x1", "0x10", "0b1", "0o7", "1_0", "1e1", "1.0", "1.", "1,", "1\n", "\t1", "1\x00", "one", "\u0661", "\uff11", "\xff", "1a", "a1", "1 ", "--1", "1000000000", "9999999999", "0000000000", "0000000001", "4294967296", "4294967309", "18446744073709551616", "18446744073709551629", strings.Repeat("1", 1000), strings.Repeat("0", 1000)}
	tooGreat := []string{"65536", "65537", "70000", "99999", "100000", "131072", "10000000", "16777216", "100000000", "999999999", "268435456"}
	for _, word := range []string{"errno", "trace"} {
		reads(t, word, act.Action{}, 0, api.ErrForm)
		for _, number := range form {
			wrongNumber(t, word, number, api.ErrForm)
		}
		for _, number := range tooGreat {
			wrongNumber(t, word, number, api.ErrRange)
		}
	}
	for _, number := range []string{"4096", "4097", "5000", "9999", "10000", "65535"} {
		wrongNumber(t, "errno", number, api.ErrRange)
	}
}

func wrongNumber(t *testing.T, word, number string, want api.Errno) {
	t.Helper()
	for _, words := range [][]string{{word, number}, {word, number, "if"}, {word, number, "1"}} {
		if a, n, e := act.Read(words); a != (act.Action{}) || n != 0 || e != want {
			t.Errorf("Read of %q: %v, %d, %d; not error %d", words, a, n, e, want)
		}
	}
}

// P9.3: no two actions have one code, or one text; there and back they are the same.
func TestThereAndBack(t *testing.T) {
	byCode, byText := map[uint32]act.Action{}, map[string]act.Action{}
	for a := range all {
		code, e := act.Code(a)
		text := act.Text(a)
		if e != api.OK || text == "" {
			t.Fatalf("%v: %#x, %d, %q", a, code, e, text)
		}
		if b, twice := byCode[code]; twice {
			t.Errorf("%v and %v have the code %#x", a, b, code)
		}
		if b, twice := byText[text]; twice {
			t.Errorf("%v and %v have the text %q", a, b, text)
		}
		byCode[code], byText[text] = a, a
		words := strings.Split(text, " ")
		if b, n, e := act.Read(words); b != a || n != len(words) || e != api.OK {
			t.Errorf("%v, told %q, read: %v, %d, %d", a, text, b, n, e)
		}
		b, e := act.From(code)
		if c, f := act.Code(b); b != a || c != code || e != api.OK || f != api.OK {
			t.Errorf("%v, code %#x, from it: %v, %d; its code %#x, %d", a, code, b, e, c, f)
		}
	}
}

// P9.3: what is read is told by the words that were read; what may come of the words is right.
func TestReadIsTold(t *testing.T) {
	words := []string{"kill", "kill_thread", "trap", "errno", "notify", "trace", "log", "allow", "0", "1", "00", "4095", "4096", "65535", "65536", "if", ""}
	read := 0
	for _, first := range words {
		for _, second := range words {
			l := []string{first, second}
			a, n, e := act.Read(l)
			if e != api.OK {
				continue
			}
			read++
			if !act.Right(a) || act.Text(a) != strings.Join(l[:n], " ") {
				t.Errorf("Read of %q: %v, told %q", l, a, act.Text(a))
			}
		}
	}
	if want := 6*len(words) + 3 + 5; read != want {
		t.Errorf("%d were read, not %d", read, want)
	}
}

// R4: the words that are handed in, and the room behind them, are neither changed nor looked at. R5: asked again, the same.
func TestHandedIn(t *testing.T) {
	whole := []string{"errno", "13", "if", "errno", "7", "allow"}
	was := slices.Clone(whole)
	for range 20 {
		for from := range whole {
			for to := from; to <= len(whole); to++ {
				a, n, e := act.Read(whole[from:to])
				b, m, f := act.Read(slices.Clone(was[from:to]))
				if a != b || n != m || e != f || !slices.Equal(whole, was) {
					t.Fatalf("Read of %q: %v, %d, %d; and %v, %d, %d; %q", was[from:to], a, n, e, b, m, f, whole)
				}
			}
		}
	}
	if a, n, e := act.Read(whole[:1]); a != (act.Action{}) || n != 0 || e != api.ErrForm {
		t.Errorf("Read of one word, with a number in the room behind it: %v, %d, %d", a, n, e)
	}
}
