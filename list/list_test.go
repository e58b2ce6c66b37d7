package list_test

import (
	"fmt"
	"math"
	"regexp"
	"slices"
	"strconv"
	"strings"
	"testing"

	"strainer/api"
	"strainer/inst"
	"strainer/list"
)

// forms has a line of each form, and its instruction.
var forms = []struct {
	line string
	i    inst.Inst
}{
	{"ld [60]", inst.Inst{Code: 0x20, K: 60}},
	{"ld #5", inst.Inst{Code: 0x00, K: 5}}, {"ldx #6", inst.Inst{Code: 0x01, K: 6}},
	{"ld m[15]", inst.Inst{Code: 0x60, K: 15}}, {"ldx m[14]", inst.Inst{Code: 0x61, K: 14}},
	{"ld len", inst.Inst{Code: 0x80}}, {"ldx len", inst.Inst{Code: 0x81}},
	{"st m[1]", inst.Inst{Code: 0x02, K: 1}}, {"stx m[2]", inst.Inst{Code: 0x03, K: 2}},
	{"tax", inst.Inst{Code: 0x07}}, {"txa", inst.Inst{Code: 0x87}}, {"neg", inst.Inst{Code: 0x84}},
	{"ja 3", inst.Inst{Code: 0x05, K: 3}}, {"ret #4", inst.Inst{Code: 0x06, K: 4}}, {"ret a", inst.Inst{Code: 0x16}},
	{"add #7", inst.Inst{Code: 0x04, K: 7}}, {"add x", inst.Inst{Code: 0x0c}},
	{"sub #7", inst.Inst{Code: 0x14, K: 7}}, {"sub x", inst.Inst{Code: 0x1c}},
	{"mul #7", inst.Inst{Code: 0x24, K: 7}}, {"mul x", inst.Inst{Code: 0x2c}},
	{"div #7", inst.Inst{Code: 0x34, K: 7}}, {"div x", inst.Inst{Code: 0x3c}},
	{"or #7", inst.Inst{Code: 0x44, K: 7}}, {"or x", inst.Inst{Code: 0x4c}},
	{"and #7", inst.Inst{Code: 0x54, K: 7}}, {"and x", inst.Inst{Code: 0x5c}},
	{"lsh #7", inst.Inst{Code: 0x64, K: 7}}, {"lsh x", inst.Inst{Code: 0x6c}},
	{"rsh #7", inst.Inst{Code: 0x74, K: 7}}, {"rsh x", inst.Inst{Code: 0x7c}},
	{"xor #7", inst.Inst{Code: 0xa4, K: 7}}, {"xor x", inst.Inst{Code: 0xac}},
	{"jeq #7 1 2", inst.Inst{Code: 0x15, Jt: 1, Jf: 2, K: 7}}, {"jeq x 1 2", inst.Inst{Code: 0x1d, Jt: 1, Jf: 2}},
	{"jgt #7 1 2", inst.Inst{Code: 0x25, Jt: 1, Jf: 2, K: 7}}, {"jgt x 1 2", inst.Inst{Code: 0x2d, Jt: 1, Jf: 2}},
	{"jge #7 1 2", inst.Inst{Code: 0x35, Jt: 1, Jf: 2, K: 7}}, {"jge x 1 2", inst.Inst{Code: 0x3d, Jt: 1, Jf: 2}},
	{"jset #7 1 2", inst.Inst{Code: 0x45, Jt: 1, Jf: 2, K: 7}}, {"jset x 1 2", inst.Inst{Code: 0x4d, Jt: 1, Jf: 2}},
}

func raw(i inst.Inst) string {
	return fmt.Sprintf(".code %d %d %d %d", i.Code, i.Jt, i.Jf, i.K)
}

func tells(t *testing.T, i inst.Inst, line string) {
	t.Helper()
	if s := list.Line(i); s != line {
		t.Errorf("Line of %v: %q, not %q", i, s, line)
	}
	reads(t, line, i)
}

func reads(t *testing.T, line string, i inst.Inst) {
	t.Helper()
	if x, e := list.Read(line); x != i || e != api.OK {
		t.Errorf("Read of %q: %v, %d; not %v", line, x, e, i)
	}
}

// refuses holds Read to an error, and to a zero value beside it (R2).
func refuses(t *testing.T, line string, want api.Errno) {
	t.Helper()
	if x, e := list.Read(line); x != (inst.Inst{}) || e != want {
		t.Errorf("Read of %q: %v, %d; not error %d", line, x, e, want)
	}
}

// P3.1: the line of each form, there and back.
func TestForms(t *testing.T) {
	codes := map[uint16]int{}
	for _, f := range forms {
		tells(t, f.i, f.line)
		codes[f.i.Code]++
	}
	if len(codes) != 41 {
		t.Fatalf("%d codes in the test's table", len(codes))
	}
}

// P3.1: the least and the greatest number of each part that a line tells.
func TestLeastAndGreatest(t *testing.T) {
	for _, f := range forms {
		words := strings.Fields(f.line)
		for _, k := range []uint32{0, 1, 9, 10, 1<<31 - 1, 1 << 31, math.MaxUint32} {
			if f.i.K == 0 { // its line tells no k
				continue
			}
			i := f.i
			i.K = k
			line := slices.Clone(words)
			line[1] = strings.Replace(line[1], strconv.Itoa(int(f.i.K)), strconv.FormatUint(uint64(k), 10), 1)
			tells(t, i, strings.Join(line, " "))
		}
		for _, jump := range []uint8{0, 1, 9, 10, 127, 128, 254, 255} {
			if f.i.Jt == 0 { // nor jumps
				continue
			}
			i := f.i
			i.Jt, i.Jf = jump, 255-jump
			tells(t, i, fmt.Sprintf("%s %s %d %d", words[0], words[1], jump, 255-jump))
		}
	}
	tells(t, inst.Inst{Code: math.MaxUint16, Jt: 255, Jf: 255, K: math.MaxUint32}, ".code 65535 255 255 4294967295")
	tells(t, inst.Inst{Code: 0x08}, ".code 8 0 0 0")
}

// P3.1: with something more than its line tells, an instruction is told by its numbers.
func TestSomethingMore(t *testing.T) {
	for _, f := range forms {
		for _, more := range []inst.Inst{{Jt: 1}, {Jf: 1}, {K: 1}, {Jt: 255}, {Jf: 255}, {K: math.MaxUint32}, {Jt: 3, Jf: 4, K: 5}} {
			i := f.i
			if i.Jt == 0 {
				i.Jt, i.Jf = more.Jt, more.Jf
			}
			if i.K == 0 {
				i.K = more.K
			}
			if i != f.i {
				tells(t, i, raw(i))
			}
		}
	}
	tells(t, inst.Inst{Code: 6, Jt: 1}, ".code 6 1 0 0")
	tells(t, inst.Inst{Code: 0x1d, Jt: 1, Jf: 2, K: 1}, ".code 29 1 2 1")
}

// P3.1: `.code` for just those codes that layer 2 does not know; and P3.3 of every code.
func TestEveryCode(t *testing.T) {
	for code := range 1 << 16 {
		for _, i := range []inst.Inst{{Code: uint16(code)}, {Code: uint16(code), Jt: 2, Jf: 1, K: 9}} {
			line := list.Line(i)
			_, _, ok := inst.Of(i.Code)
			if i.K == 0 && strings.HasPrefix(line, ".code ") == ok || !ok && line != raw(i) {
				t.Errorf("Line of %v: %q", i, line)
			}
			if x, e := list.Read(line); x != i || e != api.OK {
				t.Errorf("Read of %q: %v, %d; not %v", line, x, e, i)
			}
		}
	}
}

// P3.1: `.code` may tell an instruction that has a line of its own.
func TestCodeOfAnyOne(t *testing.T) {
	for _, f := range forms {
		reads(t, raw(f.i), f.i)
	}
}

// P3.1: blanks between, ahead and behind; a note, wherever it begins.
func TestBlanksAndNotes(t *testing.T) {
	for _, f := range forms {
		for _, blank := range []string{" ", "\t", "\r", "  ", " \t\r \r\t"} {
			line := strings.Join(strings.Fields(f.line), blank)
			for _, ahead := range []string{"", blank} {
				for _, behind := range []string{"", blank, ";", blank + ";", "; ret a", ";;", blank + "; a note; \n\x00\xff\u2003[04] jeq"} {
					reads(t, ahead+line+behind, f.i)
				}
			}
		}
	}
	refuses(t, "ld ;[0]", api.ErrForm)
	refuses(t, "jeq #1 2 ; 3", api.ErrForm)
}

// P3.1: a line without words is ErrEmpty.
func TestNoWords(t *testing.T) {
	for _, line := range []string{"", " ", "\t", "\r", " \t\r ", ";", " ;", "; ", ";ld [0]", "\t; ret a", ";;;", ";\n"} {
		refuses(t, line, api.ErrEmpty)
	}
}

// P3.1: other bytes are no blanks; they are parts of words, and words of their own.
func TestNoBlanks(t *testing.T) {
	for _, other := range []string{"\n", "\v", "\f", "\x00", "\x1f", "\x7f", "\x85", "\xa0", "\xff", "\u0085", "\u00a0", "\u2003", "\u3000", "\ufeff", ",", "#", "_"} {
		refuses(t, other, api.ErrForm)
		for _, f := range forms {
			refuses(t, other+f.line, api.ErrForm)
			refuses(t, f.line+other, api.ErrForm)
			refuses(t, f.line+" "+other, api.ErrForm)
			if strings.Contains(f.line, " ") {
				refuses(t, strings.Replace(f.line, " ", other, 1), api.ErrForm)
			}
		}
	}
}

// P3.1: lines that are none: a word too few, one too many, another one, a form of another kind.
func TestNoForm(t *testing.T) {
	for _, f := range forms {
		words := strings.Fields(f.line)
		for n := range words {
			if n > 0 {
				refuses(t, strings.Join(words[:n], " "), api.ErrForm)
			}
			if n+1 < len(words) {
				refuses(t, strings.Join(words[n+1:], " "), api.ErrForm)
			}
		}
		for _, more := range []string{"0", "1", "#1", "x", "a", "ld"} {
			refuses(t, f.line+" "+more, api.ErrForm)
			refuses(t, more+" "+f.line, api.ErrForm)
		}
		if len(words) > 1 {
			refuses(t, strings.Join(words, ""), api.ErrForm)
		}
		refuses(t, strings.ToUpper(f.line), api.ErrForm)
	}
	for _, line := range []string{
		"ld", "ld 4", "ld [4", "ld 4]", "ld []", "ld [", "ld ]", "ld [ 4 ]", "ld[4]", "ld [4] [4]", "ld [[4]]", "ld [#4]", "ld (4)", "ld x", "ld a", "ldx [4]", "ldx a", "ldx x",
		"ld #", "ld # 4", "ld ##4", "ld m", "ld m[", "ld m[]", "ld m4", "ld m[4", "ld m [4]", "ld M[4]", "ld m[#4]", "ld m[4]]", "ld #len", "ld [len]", "ld lenx", "ld le",
		"st", "st [4]", "st #4", "st x", "st m", "stx", "stx [0]", "st 4", "tax 0", "txa x", "neg 1", "neg a", "ja", "ja #3", "ja x", "ja [3]", "ja -1", "ja 1 2",
		"ret", "ret x", "ret 4", "ret [4]", "ret len", "ret A", "ret #a", "ret a a", "add", "add a", "add 4", "add [4]", "add #4 0 0", "add #x", "xor m[1]", "mod #1", "mod x", "neg x",
		"jeq", "jeq #1", "jeq #1 2", "jeq 1 2 3", "jeq a 1 2", "jeq #1 #2 #3", "jeq #1 2 3 4", "jeq #1,2,3", "jeq #1, 2, 3", "jne #1 2 3", "jlt #1 2 3", "jle x 2 3", "jset [1] 2 3",
		".code", ".code 1", ".code 1 2 3", ".code 1 2 3 4 5", ".code #1 2 3 4", ".code x 2 3 4", ".code 0x20 0 0 4", ".CODE 1 2 3 4", "code 1 2 3 4", ".code 1,2,3,4", ". code 1 2 3 4",
		"ld [K]", "ld #K", "ja K", "jeq #K T F", ".code C T F K", "foo", "0", "[4]", "#4", "len", "a", "x", "#", "ret a:", "# ret a", "// ret a",
	} {
		refuses(t, line, api.ErrForm)
	}
}

// P3.1: the places of numbers in a line, each with the greatest one that fits.
var numbered = []struct {
	ahead, behind string
	most          uint64
}{
	{"ld [", "]", math.MaxUint32}, {"ld #", "", math.MaxUint32}, {"ldx #", "", math.MaxUint32}, {"ld m[", "]", math.MaxUint32}, {"ldx m[", "]", math.MaxUint32},
	{"st m[", "]", math.MaxUint32}, {"stx m[", "]", math.MaxUint32}, {"ja ", "", math.MaxUint32}, {"ret #", "", math.MaxUint32}, {"add #", "", math.MaxUint32}, {"rsh #", "", math.MaxUint32},
	{"jeq #", " 1 2", math.MaxUint32}, {"jset #", " 0 0", math.MaxUint32}, {"jeq #1 ", " 2", math.MaxUint8}, {"jeq #1 2 ", "", math.MaxUint8}, {"jgt x ", " 2", math.MaxUint8}, {"jge x 2 ", "", math.MaxUint8},
	{".code ", " 1 2 3", math.MaxUint16}, {".code 1 ", " 2 3", math.MaxUint8}, {".code 1 2 ", " 3", math.MaxUint8}, {".code 1 2 3 ", "", math.MaxUint32},
}

func TestNumbers(t *testing.T) {
	for _, c := range numbered {
		number := func(s string) string { return c.ahead + s + c.behind }
		for _, n := range []uint64{0, 1, 9, 10, c.most - 1, c.most} {
			if _, e := list.Read(number(strconv.FormatUint(n, 10))); e != api.OK {
				t.Errorf("Read of %q: %d", number(strconv.FormatUint(n, 10)), e)
			}
		}
		for _, n := range []uint64{c.most + 1, c.most + 2, 10 * c.most, 1 << 32, 1<<32 + 1, 1 << 63, math.MaxUint64} {
			refuses(t, number(strconv.FormatUint(n, 10)), api.ErrForm)
		}
		for _, s := range []string{
			"00", "01", "007", "0" + strconv.FormatUint(c.most, 10), strings.Repeat("0", 100), strings.Repeat("9", 100), "18446744073709551616", "18446744073709551617", "4294967296", "340282366920938463463374607431768211457",
			"", "-0", "-1", "+1", "+0", "0x1", "0b1", "0o1", "1_0", "1.", "1.0", "1e0", "1e1", ".1", "1u", "a", "A", "ten", "'1'", "1,0", "\u0661", "\uff11", "1\x00", "\x001", "\ufeff1",
		} {
			refuses(t, number(s), api.ErrForm)
		}
	}
}

// Which lines are an instruction's, told once more: by patterns, of words with one blank between.
var told = regexp.MustCompile(`^(?:(?:(?:ld|ldx) (?:#N|m\[N\]|len)|ld \[N\]|stx? m\[N\]|tax|txa|neg|ja N|ret (?:#N|a)|(?:add|sub|mul|div|or|and|lsh|rsh|xor) (?:#N|x)|(?:jeq|jgt|jge|jset) (?:#N|x) B B)|\.code H B B N)$`)
var figures = regexp.MustCompile(`[0-9]+`)

// legal puts N, B and H in the place of numbers that fit in 32, 8 and 16 bits there, and asks the patterns.
func legal(line string) bool {
	line, _, _ = strings.Cut(line, ";")
	words := strings.FieldsFunc(line, func(r rune) bool { return strings.ContainsRune(" \t\r", r) })
	for at, w := range words {
		words[at] = figures.ReplaceAllStringFunc(w, func(s string) string {
			n, err := strconv.ParseUint(s, 10, 64)
			raw := words[0] == ".code"
			switch {
			case err != nil || len(s) > 1 && s[0] == '0' || strings.ContainsAny(w, "NBH"):
				return "?"
			case raw && at == 1 && n <= math.MaxUint16:
				return "H"
			case at > 1 && !(raw && at == 4) && n <= math.MaxUint8:
				return "B"
			case (at == 1 && !raw || raw && at == 4) && n <= math.MaxUint32:
				return "N"
			}
			return "?"
		})
	}
	s := strings.Join(words, " ")
	return !strings.ContainsAny(line, "NBH") && told.MatchString(s)
}

// P3.1: of lines with a byte more, less, or another one, just those are read that the patterns let; what is read is told as it was read.
func TestChangedLines(t *testing.T) {
	lines := []string{".code 65535 255 255 4294967295", ".code 0 0 0 0"}
	for _, f := range forms {
		lines = append(lines, f.line)
	}
	for _, line := range lines {
		for at := range len(line) + 1 {
			look(t, line[:at])
			if at < len(line) {
				look(t, line[:at]+line[at+1:])
			}
			for _, b := range []byte(" \t\r\n;#[]mxa0123459.-lentjK\x00\xff") {
				look(t, line[:at]+string([]byte{b})+line[at:])
				if at < len(line) {
					look(t, line[:at]+string([]byte{b})+line[at+1:])
				}
			}
		}
	}
}

func look(t *testing.T, line string) {
	t.Helper()
	i, e := list.Read(line)
	switch {
	case legal(line) && e != api.OK || !legal(line) && e == api.OK || e != api.OK && i != (inst.Inst{}):
		t.Errorf("Read of %q: %v, %d", line, i, e)
	case e == api.OK:
		reads(t, list.Line(i), i)
	}
}

// P3.1: each line has an end.
func TestText(t *testing.T) {
	for _, l := range [][]inst.Inst{nil, {}} {
		if s := list.Text(l); s != "" {
			t.Errorf("Text of no instructions: %q", s)
		}
	}
	l := []inst.Inst{{Code: 0x20}, {Code: 0x15, Jt: 0, Jf: 1, K: 3}, {Code: 6, K: 0x7fff0000}, {Code: 0x16}, {Code: 0x17, K: 1}}
	if s := list.Text(l); s != "ld [0]\njeq #3 0 1\nret #2147418112\nret a\n.code 23 0 0 1\n" {
		t.Errorf("Text: %q", s)
	}
	for _, f := range forms {
		if s := list.Text([]inst.Inst{f.i, f.i}); s != f.line+"\n"+f.line+"\n" {
			t.Errorf("Text: %q", s)
		}
	}
}

// P3.2: empty lines are none, the last one may have no end, a blank ahead of an end is a blank.
func TestProgram(t *testing.T) {
	two := []inst.Inst{{Code: 0x20, K: 4}, {Code: 0x16}}
	for _, c := range []struct {
		text string
		want []inst.Inst
	}{
		{"", nil}, {"\n", nil}, {"\n\n\n", nil}, {" ", nil}, {"; x", nil}, {"\t\n ; ld [3\n\r\n;", nil},
		{"ret a", two[1:]}, {"ret a\n", two[1:]}, {"\nret a", two[1:]}, {"ret a ; ld [4]\n", two[1:]},
		{"ld [4]\nret a", two}, {"ld [4]\nret a\n", two}, {"\n\nld [4]\n\n\nret a\n\n", two}, {"ld [4]\r\nret a\r\n", two}, {" ld\t[4] ; one\n; two\n\tret a;three", two},
		{".code 32 0 0 4\n.code 22 0 0 0", two}, {"ja 9\n.code 65535 1 2 3", []inst.Inst{{Code: 5, K: 9}, {Code: 65535, Jt: 1, Jf: 2, K: 3}}},
	} {
		if l, n, e := list.Program(c.text); !slices.Equal(l, c.want) || n != 0 || e != api.OK {
			t.Errorf("Program of %q: %v, %d, %d; not %v", c.text, l, n, e, c.want)
		}
	}
}

// P3.2: the first line that is wrong, from 1 on, empty ones counted; nothing else beside it (R2).
func TestProgramWrong(t *testing.T) {
	for _, c := range []struct {
		text string
		want int
	}{
		{"foo", 1}, {"foo\n", 1}, {"foo\nret a\n", 1}, {"foo\nbar\nret a", 1}, {"ret a\nfoo", 2}, {"ret a\nfoo\n", 2}, {"\n\n;\nfoo", 4}, {"ld [0]\n\nld [04]\nret a", 3}, {"ret a\n\x00", 2},
		{"ret\na", 1}, {"ret a\nret\n", 2}, {"ret a\vret a", 1}, {"ret #4294967296", 1}, {"ld [0]\rret a\n", 1}, {"; a note\nend\n", 2},
		{strings.Repeat("neg\n", 9999) + "nag", 10000}, {strings.Repeat("\n", api.MaxText-1) + "x", api.MaxText}, {"x" + strings.Repeat("\n", api.MaxText-1), 1},
	} {
		if l, n, e := list.Program(c.text); len(l) != 0 || n != c.want || e != api.ErrForm {
			t.Errorf("Program of %.40q: %d instructions, %d, %d; not line %d", c.text, len(l), n, e, c.want)
		}
	}
}

// P3.2: just as many bytes as there may be, and one more, whatever they are.
func TestProgramLong(t *testing.T) {
	for _, c := range []struct {
		text string
		many int
	}{
		{strings.Repeat("\n", api.MaxText), 0}, {strings.Repeat(" ", api.MaxText), 0}, {";" + strings.Repeat("x", api.MaxText-1), 0},
		{strings.Repeat("neg\n", api.MaxText/4), api.MaxText / 4}, {"ret a" + strings.Repeat(" ", api.MaxText-5), 1}, {strings.Repeat("\n", api.MaxText-5) + "ret a", 1},
	} {
		if l, n, e := list.Program(c.text); len(c.text) != api.MaxText || len(l) != c.many || n != 0 || e != api.OK {
			t.Errorf("Program of %d bytes: %d instructions, %d, %d", len(c.text), len(l), n, e)
		}
		for _, more := range []string{"\n", " ", "x", strings.Repeat("\nfoo", api.MaxText)} {
			for _, text := range []string{c.text + more, more + c.text} {
				if l, n, e := list.Program(text); len(l) != 0 || n != 0 || e != api.ErrLong {
					t.Errorf("Program of %d bytes: %d instructions, %d, %d", len(text), len(l), n, e)
				}
			}
		}
	}
}

// mixed tells instructions whose parts are at their edges, or like a code's that there is.
func mixed(many int) []inst.Inst {
	l := make([]inst.Inst, many)
	x := uint32(7)
	next := func(n uint32) uint32 {
		x = x*1664525 + 1013904223
		return (x >> 8) % n
	}
	for at := range l {
		i := forms[next(uint32(len(forms)))].i
		switch next(4) {
		case 0:
			i.K = []uint32{0, 1, 1 << 31, math.MaxUint32}[next(4)]
		case 1:
			i.Jt, i.Jf = uint8(next(256)), uint8(next(256))
		case 2:
			i.Code = uint16(next(1 << 16))
		}
		l[at] = i
	}
	return l
}

// P3.3: a program's text is read as it was, with notes, blanks and empty lines, too.
func TestThereAndBack(t *testing.T) {
	for _, many := range []int{0, 1, 2, 41, 500, 2000} {
		l := mixed(many)
		text := list.Text(l)
		if x, n, e := list.Program(text); !slices.Equal(x, l) || n != 0 || e != api.OK {
			t.Errorf("%d instructions: what is told is not read as it was (%d, %d)", many, n, e)
		}
		wide := strings.ReplaceAll(strings.ReplaceAll(text, " ", " \t"), "\n", "\r; a note\n\n")
		if x, n, e := list.Program(wide); len(wide) <= api.MaxText && (!slices.Equal(x, l) || n != 0 || e != api.OK) {
			t.Errorf("%d instructions, with notes: what is told is not read as it was (%d, %d)", many, n, e)
		}
		lines := ""
		for _, i := range l {
			lines += list.Line(i) + "\n"
		}
		if lines != text {
			t.Errorf("%d instructions: their text is not their lines", many)
		}
	}
}

// R4: what is handed in, and the room behind it, is neither changed nor kept; what is handed out is new.
func TestHandedIn(t *testing.T) {
	whole := mixed(20)
	l := whole[3:9]
	text := list.Text(l)
	if !slices.Equal(whole, mixed(20)) {
		t.Error("Text changes its list")
	}
	x, _, _ := list.Program(text)
	clear(x)
	x = append(x, inst.Inst{Code: 1})
	if y, _, _ := list.Program(text); !slices.Equal(y, l) || len(x) != len(y)+1 {
		t.Error("Program keeps what it hands out")
	}
}
