package lex_test

import (
	"slices"
	"strings"
	"testing"

	"strainer/api"
	"strainer/lex"
)

// line tells one of a number and words.
func line(number int, words ...string) lex.Line { return lex.Line{Number: number, Words: words} }

// same: have two lists of lines the same numbers and words?
func same(a, b []lex.Line) bool {
	return slices.EqualFunc(a, b, func(x, y lex.Line) bool { return x.Number == y.Number && slices.Equal(x.Words, y.Words) })
}

// brief is a text's beginning, to be told with a fault.
func brief(text string) string { return text[:min(len(text), 100)] }

// lines holds Lines to the lines that count.
func lines(t *testing.T, text string, want ...lex.Line) {
	t.Helper()
	l, number, e := lex.Lines(text)
	if !same(l, want) || number != 0 || e != api.OK {
		t.Errorf("Lines of %q: %v, %d, %d; not %v", brief(text), l[:min(len(l), 20)], number, e, want)
	}
}

// wrong holds Lines to an error, with its line's number and no lines beside it (R2).
func wrong(t *testing.T, text string, want int, e api.Errno) {
	t.Helper()
	if l, number, f := lex.Lines(text); len(l) != 0 || number != want || f != e {
		t.Errorf("Lines of %q: %d lines, %d, %d; not %d, %d", brief(text), len(l), number, f, want, e)
	}
}

// P13.1: the document's example; and texts with every kind of line.
func TestLines(t *testing.T) {
	lines(t, "a b # c\n\nd", line(1, "a", "b"), line(3, "d"))
	lines(t, "a b # c\n\nd\n", line(1, "a", "b"), line(3, "d"))
	lines(t, "a", line(1, "a"))
	lines(t, "a\nb", line(1, "a"), line(2, "b"))
	lines(t, "\n\n\na\n\n\nb\n\n\n", line(4, "a"), line(7, "b"))
	lines(t, "default kill\r\nx32 on\r\nread allow if a0 & 3 == 0x1 # first\r\n", line(1, "default", "kill"), line(2, "x32", "on"), line(3, "read", "allow", "if", "a0", "&", "3", "==", "0x1"))
	lines(t, "# one\na # two # three\n # four\n#\nb", line(2, "a"), line(5, "b"))
}

// P13.1: blanks stand between words, ahead of them and behind them, as many as there are, of all three kinds.
func TestBlanks(t *testing.T) {
	lines(t, " a", line(1, "a"))
	lines(t, "a ", line(1, "a"))
	lines(t, "\ta\t", line(1, "a"))
	lines(t, "\ra\r", line(1, "a"))
	lines(t, "a  b\t\tc\r\rd \t\r e", line(1, "a", "b", "c", "d", "e"))
	lines(t, " \t\r \n\r\na\rb\tc d\n", line(3, "a", "b", "c", "d"))
	// A byte 13 alone is no line's end.
	lines(t, "a\rb\r\rc\n\rd", line(1, "a", "b", "c"), line(2, "d"))
}

// P13.1, R3: a text may have no line that counts.
func TestNoLines(t *testing.T) {
	for _, text := range []string{"", " ", "\n", "\n\n\n", "\r\n", "\t", " \t\r \n \t\r ", "#", "##", "# a", " # a b", "#a\n#b\n", "\n#\n\n"} {
		lines(t, text)
	}
}

// P13.1: what stands from a # on is a note, also behind a word without a blank; a note ends with its line.
func TestNotes(t *testing.T) {
	lines(t, "a#b", line(1, "a"))
	lines(t, "a #b c", line(1, "a"))
	lines(t, "a b#", line(1, "a", "b"))
	lines(t, "a##b#c", line(1, "a"))
	lines(t, "a#b\nc#d", line(1, "a"), line(2, "c"))
	lines(t, "#a\rb\nc", line(2, "c"))
	lines(t, "a#\r\nb", line(1, "a"), line(2, "b"))
	// Other signs that begin notes elsewhere are words' here.
	lines(t, "a;b //c \"#d\"", line(1, "a;b", "//c", "\""))
}

// P13.1: each byte, in each place: what it is in a word, alone, in the second line, and in a note.
func TestBytes(t *testing.T) {
	for b := range 256 {
		s := string([]byte{byte(b)})
		if b != '\n' {
			lines(t, "a #"+s+"c", line(1, "a"))
		}
		switch {
		case b == '\n':
			lines(t, "a"+s+"c", line(1, "a"), line(2, "c"))
			lines(t, "a #"+s+"c", line(1, "a"), line(2, "c"))
		case b == '#':
			lines(t, "a"+s+"c", line(1, "a"))
		case b == ' ' || b == '\t' || b == '\r':
			lines(t, s)
			lines(t, "a"+s+"c", line(1, "a", "c"))
			lines(t, s+"a\nb"+s, line(1, "a"), line(2, "b"))
		case b >= 33 && b <= 126:
			lines(t, s, line(1, s))
			lines(t, "a"+s+"c\n "+s+s+"\t", line(1, "a"+s+"c"), line(2, s+s))
		default:
			wrong(t, s, 1, api.ErrForm)
			wrong(t, s+" # a", 1, api.ErrForm)
			wrong(t, "a"+s+"c", 1, api.ErrForm)
			wrong(t, "a\nb "+s, 2, api.ErrForm)
			wrong(t, "a\nb\n"+s+"c\nd", 3, api.ErrForm)
			wrong(t, "#"+s+"\n#"+s+"\n"+s+"#", 3, api.ErrForm)
		}
	}
}

// P13.1: of several lines that are wrong the first one counts; lines that do not count are counted.
func TestFirstWrong(t *testing.T) {
	wrong(t, "a\x00\nb\x01", 1, api.ErrForm)
	wrong(t, "a\nb\x7f\nc\x01", 2, api.ErrForm)
	wrong(t, "\x1f", 1, api.ErrForm)
	wrong(t, "\n\n# a\n \t\nb\x80\n\x00", 5, api.ErrForm)
	wrong(t, "a\n\x0b\n", 2, api.ErrForm)
	wrong(t, "a \x0c b", 1, api.ErrForm)
	wrong(t, "a # b\x00\nc\x00 # d", 2, api.ErrForm)
	wrong(t, strings.Repeat("\n", 65535)+"\x00", 65536, api.ErrForm)
	wrong(t, strings.Repeat("a\n", 999)+"\x00\n\x00", 1000, api.ErrForm)
}

// P13.1: signs beyond a byte may not stand outside of notes, blanks and the sign of no sign neither; what is no sign at all neither.
func TestSigns(t *testing.T) {
	for _, s := range []string{"\u00e4", "\u00a0", "\u0085", "\u2028", "\u2029", "\u3000", "\ufeff", "\ufffd", "\uff03", "\U0001f600", "\xff", "\xc3", "\xe2\x80", "\xc0\xa3", "\xc0\x8a", "\xed\xa0\x80", "\xf8\x88\x80\x80\x80", "\x80"} {
		wrong(t, s, 1, api.ErrForm)
		wrong(t, "a"+s+"b", 1, api.ErrForm)
		wrong(t, "a\n b "+s+" # c", 2, api.ErrForm)
		lines(t, "#"+s)
		lines(t, "a # "+s+"\nb #"+s+"#\n", line(1, "a"), line(2, "b"))
		lines(t, "a #"+s+"\n"+"b", line(1, "a"), line(2, "b"))
		wrong(t, "a #"+s+"\n"+s, 2, api.ErrForm)
	}
}

// P13.1: a text may have 2^16 bytes, whatever they are, and no byte more; too many count ahead of what is wrong in them.
func TestLong(t *testing.T) {
	word := strings.Repeat("a", 65535)
	lines(t, word, line(1, word))
	lines(t, word+"b", line(1, word+"b"))
	lines(t, word+"\n", line(1, word))
	lines(t, " "+word, line(1, word))
	lines(t, strings.Repeat("\n", 65535)+"a", line(65536, "a"))
	lines(t, strings.Repeat("\n", 65536))
	lines(t, strings.Repeat("#", 65536))
	lines(t, "#"+strings.Repeat("\x00", 65535))
	lines(t, "##"+strings.Repeat("\u00e4", 32767))
	wrong(t, strings.Repeat("\x00", 65536), 1, api.ErrForm)
	for _, s := range []string{"a", "#", " ", "\n", "\x00", "\xff"} {
		wrong(t, word+"b"+s, 0, api.ErrLong)
		wrong(t, strings.Repeat(s, 65537), 0, api.ErrLong)
		wrong(t, strings.Repeat(s, 1<<20), 0, api.ErrLong)
	}
	wrong(t, "\x00"+word+"b", 0, api.ErrLong)
	wrong(t, "#"+strings.Repeat("\u00e4", 32768), 0, api.ErrLong)
	if l, _, e := lex.Lines(strings.Repeat("a\n", 32768)); len(l) != 32768 || l[32767].Number != 32768 || e != api.OK {
		t.Errorf("%d lines, %d", len(l), e)
	}
	if l, _, e := lex.Lines(strings.Repeat("a ", 32768)); len(l) != 1 || len(l[0].Words) != 32768 || e != api.OK {
		t.Errorf("%d lines, %d", len(l), e)
	}
}

// P13.2: one blank between words, and an end behind each line; its number does not count.
func TestJoin(t *testing.T) {
	for _, c := range []struct {
		l    []lex.Line
		text string
	}{
		{nil, ""},
		{[]lex.Line{}, ""},
		{[]lex.Line{line(1, "a")}, "a\n"},
		{[]lex.Line{line(1, "a", "b", "c")}, "a b c\n"},
		{[]lex.Line{line(1, "a", "b"), line(3, "d")}, "a b\nd\n"},
		{[]lex.Line{line(7, "a"), line(7, "b"), line(-1, "c"), line(0, "a")}, "a\nb\nc\na\n"},
		{[]lex.Line{line(1), line(2, "a"), line(3)}, "\na\n\n"},
		{[]lex.Line{line(1, "default", "errno", "38"), line(2, "read", "allow", "if", "a0", "<=", "2")}, "default errno 38\nread allow if a0 <= 2\n"},
	} {
		if text := lex.Join(c.l); text != c.text {
			t.Errorf("Join of %v: %q, not %q", c.l, text, c.text)
		}
	}
}

// told is a second telling of the document's words: a text's lines, byte by byte.
func told(text string) ([]lex.Line, int) {
	var l []lex.Line
	at := line(1)
	word, noted := "", false
	for _, b := range []byte(text + "\n") {
		blank := b == 32 || b == 9 || b == 13
		noted = noted || b == '#'
		switch {
		case !noted && !blank && b > 32 && b < 127:
			word += string(rune(b))
			continue
		case !noted && !blank && b != 10:
			return nil, at.Number
		}
		if word != "" {
			at.Words = append(at.Words, word)
			word = ""
		}
		if b == 10 && len(at.Words) > 0 {
			l = append(l, at)
		}
		if b == 10 {
			at, noted = line(at.Number+1), false
		}
	}
	return l, 0
}

// texts goes through texts of the signs that matter, put together by a rule.
func texts(yield func(string) bool) {
	signs := []string{"a", "b", "~", "!", " ", " ", "\t", "\r", "\n", "\n", "#", "if", "0x1", "a", "c", "\x00", "\u00e4", "\x7f", "\xff", "\x0b"}
	state := uint32(1)
	for n := range 40000 {
		// Every other text has no sign that may not be: those stand last.
		kinds := len(signs)
		if n%2 == 0 {
			kinds -= 5
		}
		text := ""
		for range n % 23 {
			state = state*1664525 + 1013904223
			text += signs[int(state>>16)%kinds]
		}
		if !yield(text) {
			return
		}
	}
}

// P13.1: many texts, as they are told a second time.
func TestLinesTwice(t *testing.T) {
	right, not := 0, 0
	for text := range texts {
		l, number := told(text)
		if number == 0 {
			right++
			lines(t, text, l...)
			continue
		}
		not++
		wrong(t, text, number, api.ErrForm)
	}
	if right < 10000 || not < 1000 {
		t.Errorf("%d texts that may be, and %d others", right, not)
	}
}

// P13.2: joined, a text's lines are a text with the same words, line by line; joined again it is the same text.
func TestJoinAgain(t *testing.T) {
	for text := range texts {
		l, _, e := lex.Lines(text)
		if e != api.OK {
			continue
		}
		joined := lex.Join(l)
		if n := strings.Count(joined, "\n"); n != len(l) || strings.ContainsAny(joined, "\t\r#") || strings.Contains(joined, "  ") {
			t.Errorf("%q joined: %q", text, joined)
		}
		for at := range l {
			l[at].Number = at + 1
		}
		lines(t, joined, l...)
		if again, _, _ := lex.Lines(joined); lex.Join(again) != joined {
			t.Errorf("%q joined twice: %q", text, lex.Join(again))
		}
	}
}

// R4: the lines that are handed in are not changed, the spare room behind their ends neither.
func TestJoinKeeps(t *testing.T) {
	words := []string{"a", "b", "spare"}
	whole := []lex.Line{line(4, words[:2]...), line(2, "c"), line(9, "spare")}
	whole[0].Words = words[:2]
	if text := lex.Join(whole[:2]); text != "a b\nc\n" {
		t.Errorf("%q", text)
	}
	if !slices.Equal(words, []string{"a", "b", "spare"}) || !same(whole, []lex.Line{line(4, "a", "b"), line(2, "c"), line(9, "spare")}) {
		t.Errorf("changed: %q, %v", words, whole)
	}
}

// R4, R5: the lines that are handed out share nothing, with each other, or with those of another call.
func TestLinesAreNew(t *testing.T) {
	const text = "a b\nc d # e\n\nf g h"
	want := []lex.Line{line(1, "a", "b"), line(2, "c", "d"), line(4, "f", "g", "h")}
	first, _, _ := lex.Lines(text)
	for at := range first {
		_ = append(first[at].Words, "more")
		if !same(first, want) {
			t.Fatalf("changed by a change behind line %d: %v", at, first)
		}
	}
	for at := range first {
		clear(first[at].Words)
		if at+1 < len(first) && !same(first[at+1:], want[at+1:]) {
			t.Fatalf("changed by a change of line %d: %v", at, first)
		}
	}
	clear(first)
	lines(t, text, want...)
}
