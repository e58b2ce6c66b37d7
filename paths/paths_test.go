package paths_test

import (
	"encoding/binary"
	"fmt"
	"math"
	"slices"
	"strings"
	"testing"

	"strainer/api"
	"strainer/build"
	"strainer/check"
	"strainer/data"
	"strainer/inst"
	"strainer/judge"
	"strainer/list"
	"strainer/paths"
	"strainer/systab"
	"strainer/vm"
)

// all is the mask of a word of which all bits are asked.
const all = math.MaxUint32

// brief tells a thing's beginning.
func brief(a any) string { return fmt.Sprintf("%.600s", fmt.Sprintf("%+v", a)) }

// program tells the one of some lines.
func program(t *testing.T, lines ...string) []inst.Inst {
	t.Helper()
	l, at, e := list.Program(strings.Join(lines, "\n"))
	if e != api.OK {
		t.Fatalf("Program of %q: %d, %d", lines, at, e)
	}
	return l
}

// same: are all fields of paths?
func same(a, b []paths.Path) bool {
	return slices.EqualFunc(a, b, func(a, b paths.Path) bool {
		return a.Steps == b.Steps && a.Value == b.Value && slices.Equal(a.Tests, b.Tests)
	})
}

// has holds All to the paths of a plain program.
func has(t *testing.T, l []inst.Inst, want ...paths.Path) {
	t.Helper()
	p, e := paths.All(l)
	if e != api.OK || !same(p, want) || !paths.Plain(l) {
		t.Errorf("P27.1: %s: %s, %d, not %s", list.Text(l), brief(p), e, brief(want))
	}
}

// asks tells a test.
func asks(at int, mask uint32, kind inst.Kind, k uint32, is bool) paths.Test {
	return paths.Test{At: at, Mask: mask, Kind: kind, K: k, Is: is}
}

// way tells a path.
func way(steps int, value uint32, l ...paths.Test) paths.Path {
	return paths.Path{Tests: l, Steps: steps, Value: value}
}

// P27.1: the document's example.
func TestExample(t *testing.T) {
	has(t, program(t, "ld [0]", "jeq #1 0 1", "ret #2", "ret #3"),
		way(3, 2, asks(0, all, inst.Equal, 1, true)),
		way(3, 3, asks(0, all, inst.Equal, 1, false)))
}

// P27.1: paths in order, at each branch first those where it is so; tests in order; steps; values.
func TestAll(t *testing.T) {
	has(t, program(t, "ret #7"), way(1, 7))
	has(t, program(t, "ret #4294967295", "ret #1"), way(1, all))
	has(t, program(t, "ld [60]", "and #0", "ld [4]", "ja 0", "ret #0"), way(5, 0))
	has(t, program(t, "ja 2", "ld [0]", "jeq #1 0 0", "ret #9"), way(2, 9))
	has(t, program(t, "ld [0]", "jeq #1 0 3", "ld [16]", "jset #2 0 1", "ret #2", "ret #3"),
		way(5, 2, asks(0, all, inst.Equal, 1, true), asks(16, all, inst.Common, 2, true)),
		way(5, 3, asks(0, all, inst.Equal, 1, true), asks(16, all, inst.Common, 2, false)),
		way(3, 3, asks(0, all, inst.Equal, 1, false)))
	has(t, program(t, "ld [0]", "jgt #1 1 0", "jge #4294967295 1 1", "ret #1", "ret #2"),
		way(3, 1, asks(0, all, inst.Greater, 1, true)),
		way(4, 2, asks(0, all, inst.Greater, 1, false), asks(0, all, inst.Least, all, true)),
		way(4, 2, asks(0, all, inst.Greater, 1, false), asks(0, all, inst.Least, all, false)))
	// A way counts whether or not a record may take it, and both ways of a branch that lead to one place.
	has(t, program(t, "ld [4]", "jeq #5 0 0", "jeq #5 0 1", "ret #1", "ret #2"),
		way(4, 1, asks(4, all, inst.Equal, 5, true), asks(4, all, inst.Equal, 5, true)),
		way(4, 2, asks(4, all, inst.Equal, 5, true), asks(4, all, inst.Equal, 5, false)),
		way(4, 1, asks(4, all, inst.Equal, 5, false), asks(4, all, inst.Equal, 5, true)),
		way(4, 2, asks(4, all, inst.Equal, 5, false), asks(4, all, inst.Equal, 5, false)))
}

// P27.1: a mask has the bits of all `and` behind its word's load; a load begins anew; what stands on another way does not count.
func TestMasks(t *testing.T) {
	has(t, program(t, "ld [8]", "and #255", "and #4080", "jeq #16 0 1", "ret #1", "and #32", "jset #1 0 1", "ret #2", "ld [12]", "jgt #2 0 1", "ret #3", "ret #4"),
		way(5, 1, asks(8, 240, inst.Equal, 16, true)),
		way(7, 2, asks(8, 240, inst.Equal, 16, false), asks(8, 32, inst.Common, 1, true)),
		way(9, 3, asks(8, 240, inst.Equal, 16, false), asks(8, 32, inst.Common, 1, false), asks(12, all, inst.Greater, 2, true)),
		way(9, 4, asks(8, 240, inst.Equal, 16, false), asks(8, 32, inst.Common, 1, false), asks(12, all, inst.Greater, 2, false)))
	// Two ways meet with other words, and other masks.
	has(t, program(t, "ld [0]", "jeq #1 0 2", "and #15", "ja 1", "ld [4]", "jeq #3 0 1", "ret #1", "ret #2"),
		way(6, 1, asks(0, all, inst.Equal, 1, true), asks(0, 15, inst.Equal, 3, true)),
		way(6, 2, asks(0, all, inst.Equal, 1, true), asks(0, 15, inst.Equal, 3, false)),
		way(5, 1, asks(0, all, inst.Equal, 1, false), asks(4, all, inst.Equal, 3, true)),
		way(5, 2, asks(0, all, inst.Equal, 1, false), asks(4, all, inst.Equal, 3, false)))
}

// isNone holds Plain and All to a program that is not plain.
func isNone(t *testing.T, l []inst.Inst) {
	t.Helper()
	if p, e := paths.All(l); e != api.ErrState || len(p) > 0 || paths.Plain(l) {
		t.Errorf("P27.1: %s: %s, %d", list.Text(l), brief(p), e)
	}
}

// P27.1: a program that may not run is not plain.
func TestMayNotRun(t *testing.T) {
	isNone(t, nil)
	isNone(t, []inst.Inst{})
	for _, lines := range []string{"ld [0]", "ja 0", "ld [2]\nret #1", "ld [64]\nret #1", "ja 1\nret #1", "ld [0]\njeq #1 0 1\nret #1", "ld [0]\njeq #1 1 0\nret #1", ".code 65535 0 0 0\nret #1", "ld [0]\nand #1"} {
		isNone(t, program(t, lines))
	}
	long := slices.Repeat(program(t, "ld [0]"), api.MaxInst-1)
	has(t, append(long, program(t, "ret #5")...), way(api.MaxInst, 5))
	isNone(t, append(long, program(t, "ld [0]", "ret #5")...))
}

// P27.1: just loads of words, `and` with k, jumps, branches by k, and returns of k may stand in a plain program, whether a way leads there or not.
func TestKinds(t *testing.T) {
	may := []inst.Kind{inst.Load, inst.And, inst.Jump, inst.RetK, inst.Equal, inst.Greater, inst.Least, inst.Common}
	many := 0
	for code := range 1 << 16 {
		kind, x, ok := inst.Of(uint16(code))
		one := inst.Inst{Code: uint16(code)}
		if kind == inst.Div {
			one.K = 1
		}
		ahead := []inst.Inst{{Code: 0x02}, {Code: 0x20}, one, {Code: 0x06}} // the cell is stored, but that is not plain
		for _, l := range [][]inst.Inst{ahead[1:], {{Code: 0x05, K: 1}, one, {Code: 0x06}}, append([]inst.Inst{{Code: 0x06}}, ahead[2:]...)} {
			_, e := check.Check(l)
			plain := ok && !x && slices.Contains(may, kind)
			if plain && e == api.OK {
				many++
			}
			if paths.Plain(l) != plain {
				t.Errorf("P27.1: %s: %v", list.Text(l), !plain)
			}
		}
		if paths.Plain(ahead) {
			t.Errorf("P27.1: %s", list.Text(ahead))
		}
	}
	if many != 3*len(may) {
		t.Errorf("P27.1: %d", many)
	}
}

// P27.1: on each way from the first one to an `and` or a branch a word was loaded; to which no way leads does not count.
func TestLoaded(t *testing.T) {
	for _, lines := range []string{"and #1\nret #1", "jeq #0 0 0\nret #1", "jset #1 0 0\nld [0]\nret #1", "ja 0\njge #0 0 0\nret #1", "ja 1\nld [0]\nand #1\nret #1", "ja 1\nld [0]\njgt #1 0 0\nret #1", "ret #1\nadd #1\nret #1", "ja 2\nld [0]\nja 1\nja 0\nand #1\nret #1"} {
		isNone(t, program(t, lines))
	}
	for _, lines := range []string{"ret #1\nand #1\nret #1", "ret #1\njeq #0 0 0\nret #1", "ja 2\nand #1\njset #1 0 0\nret #1", "ja 1\nand #1\nld [0]\nand #1\njeq #0 0 0\nret #1", "ld [0]\nja 1\nld [4]\nand #1\nret #1"} {
		if !paths.Plain(program(t, lines)) {
			t.Errorf("P27.1: %q is plain", lines)
		}
	}
}

// doubled tells a program of so many paths: each branch but the last ones doubles them.
func doubled(t *testing.T, twice, more int) []inst.Inst {
	t.Helper()
	lines := []string{"ld [0]"}
	for range twice {
		lines = append(lines, "jeq #1 0 0")
	}
	if more > 0 {
		// Behind one more branch one way ends; the other one is all those.
		return program(t, append([]string{"ld [0]", "jeq #1 1 0", "ret #9"}, append(lines, "ret #1")...)...)
	}
	return program(t, append(lines, "ret #1")...)
}

// P27.1: 4096 paths are told, more are ErrLong, however many more.
func TestLong(t *testing.T) {
	p, e := paths.All(doubled(t, 12, 0))
	if e != api.OK || len(p) != 4096 || p[0].Steps != 14 || !p[0].Tests[11].Is || p[1].Tests[11].Is || p[4095].Tests[0].Is {
		t.Errorf("P27.1: %d paths, %d", len(p), e)
	}
	if p, e = paths.All(doubled(t, 11, 1)); e != api.OK || len(p) != 2049 || p[2048].Value != 9 || p[2047].Steps != 15 {
		t.Errorf("P27.1: %d paths, %d", len(p), e)
	}
	for _, l := range [][]inst.Inst{doubled(t, 12, 1), doubled(t, 13, 0), doubled(t, 31, 0), doubled(t, 64, 0), doubled(t, 4094, 0)} {
		if p, e := paths.All(l); e != api.ErrLong || len(p) > 0 || !paths.Plain(l) {
			t.Errorf("P27.1: %d paths, %d", len(p), e)
		}
	}
	// As many as there may be, one branch behind the other.
	lines := []string{"ld [4]"}
	for range (api.MaxInst - 2) / 2 {
		lines = append(lines, "jeq #7 0 1", "ret #1")
	}
	lines = append(lines, "ret #2")
	p, e = paths.All(program(t, lines...))
	if last := p[len(p)-1]; e != api.OK || len(p) != 2048 || len(last.Tests) != 2047 || last.Steps != 2049 || last.Value != 2 {
		t.Errorf("P27.1: %d paths, %d", len(p), e)
	}
}

// takes holds Taken to what it tells of a test alone, of a record whose bytes are 0 to 63.
func takes(t *testing.T, x paths.Test, want bool) {
	t.Helper()
	var b []byte
	for n := range 64 {
		b = append(b, byte(n))
	}
	if paths.Taken(way(0, 0, x), b) != want {
		t.Errorf("P27.1: Taken of %+v: %v", x, !want)
	}
}

// P27.1: is a word of the record, in the bits of a mask, as a test tells?
func TestTaken(t *testing.T) {
	for _, c := range []struct {
		x    paths.Test
		want bool
	}{
		{asks(0, all, inst.Equal, 0x03020100, true), true},
		{asks(0, all, inst.Equal, 0x00010203, true), false},
		{asks(60, all, inst.Equal, 0x3f3e3d3c, true), true},
		{asks(1, all, inst.Equal, 0x04030201, true), true},
		{asks(58, all, inst.Equal, 0x3d3c3b3a, true), true},
		{asks(4, 0xff00, inst.Equal, 0x0500, true), true},
		{asks(4, 0xff00, inst.Equal, 0x0504, true), false},
		{asks(4, 0, inst.Equal, 0, true), true},
		{asks(4, all, inst.Greater, 0x07060503, true), true},
		{asks(4, all, inst.Greater, 0x07060504, true), false},
		{asks(4, all, inst.Least, 0x07060504, true), true},
		{asks(4, all, inst.Least, 0x07060505, true), false},
		{asks(4, 0xf, inst.Greater, 4, true), false},
		{asks(4, 0xf, inst.Least, 4, true), true},
		{asks(4, 0, inst.Least, 0, true), true},
		{asks(4, all, inst.Common, 4, true), true},
		{asks(4, all, inst.Common, 3, true), false},
		{asks(4, all, inst.Common, 0, true), false},
		{asks(4, 1, inst.Common, all, true), false},
		{asks(8, 8, inst.Common, all, true), true},
		{asks(60, all, inst.Greater, 0x80000000, true), false}, // without a sign
		{asks(60, all, inst.Least, 0xffffffff, true), false},
	} {
		takes(t, c.x, c.want)
		c.x.Is = false
		takes(t, c.x, !c.want)
	}
}

// P27.1: false of other bytes than 64, and of tests of words that are not there, or by another kind; whether it is so or not.
func TestTakenWrong(t *testing.T) {
	b := make([]byte, 64)
	holds := asks(0, all, inst.Equal, 0, true)
	for _, p := range []paths.Path{way(1, 0), way(2, 5, holds), way(9, 9, slices.Repeat([]paths.Test{holds}, 5000)...), {}} {
		for n := range 130 {
			if paths.Taken(p, make([]byte, n)) != (n == 64) {
				t.Errorf("P27.1: %s of %d bytes", brief(p), n)
			}
		}
		if paths.Taken(p, nil) {
			t.Error("P27.1: of no bytes")
		}
	}
	for _, is := range []bool{false, true} {
		for _, at := range []int{-1, -4, 61, 62, 63, 64, 65, 1000, math.MinInt, math.MinInt + 3, math.MaxInt, math.MaxInt - 3, 1 << 32} {
			takes(t, asks(at, all, inst.Equal, 0, is), false)
		}
		for kind := inst.Kind(-1); kind < 40; kind++ {
			if kind < inst.Equal || kind > inst.Common {
				takes(t, asks(0, all, kind, 0, is), false)
			}
		}
		takes(t, asks(0, all, math.MaxInt, 0, is), false)
		takes(t, asks(0, all, math.MinInt, 0, is), false)
	}
	// All tests count, wherever they stand.
	for _, wrong := range []paths.Test{asks(0, all, inst.Equal, 1, true), asks(61, all, inst.Equal, 0, true), asks(0, all, inst.Load, 0, false), {}} {
		for at := range 3 {
			l := slices.Repeat([]paths.Test{holds}, 3)
			l[at] = wrong
			if paths.Taken(way(0, 0, l...), b) {
				t.Errorf("P27.1: %s", brief(l))
			}
		}
	}
}

// chance tells numbers that are the same each time.
type chance uint64

func (c *chance) below(n int) int {
	*c = *c*6364136223846793005 + 1442695040888963407
	mixed := uint64(*c>>32) ^ uint64(*c>>47)
	return int((mixed * 0x9e3779b97f4a7c15 >> 33) % uint64(n))
}

// value tells one of few numbers.
func (c *chance) value() uint32 { return []uint32{0, 1, 2, 3, 7, 0x80000000, all}[c.below(7)] }

// program tells one that may run, mostly a plain one.
func (c *chance) program() []inst.Inst {
	many := 1 + c.below(12)
	var l []inst.Inst
	for at := range many {
		behind := many - 1 - at
		i := inst.Inst{Code: 0x20, K: uint32(4 * c.below(4))}
		switch c.below(12) {
		case 0, 1, 2, 3, 4:
			if behind > 0 {
				i = inst.Inst{Code: uint16(0x15 + 16*c.below(4)), Jt: uint8(c.below(min(behind, 4))), Jf: uint8(c.below(min(behind, 4))), K: c.value()}
			}
		case 5, 6:
			i = inst.Inst{Code: 0x54, K: c.value()}
		case 7:
			if behind > 0 {
				i = inst.Inst{Code: 0x05, K: uint32(c.below(behind))}
			}
		case 8:
			i = inst.Inst{Code: 0x06, K: c.value()}
		case 9:
			if c.below(6) == 0 {
				i = inst.Inst{Code: []uint16{0x84, 0x16, 0x04, 0x00, 0x87, 0x5c}[c.below(6)]}
			}
		}
		if at == 0 && c.below(8) > 0 {
			i = inst.Inst{Code: 0x20}
		}
		if behind == 0 {
			i = inst.Inst{Code: 0x06, K: c.value()}
		}
		l = append(l, i)
	}
	return l
}

// walk goes one way: at its branches as answers tell, behind them as if all were so. It tells the path, and false, if an `and` or a branch stands there without a word.
func walk(l []inst.Inst, answers []bool) (paths.Path, bool) {
	var p paths.Path
	at, word, mask := 0, -1, uint32(all)
	for {
		i := l[at]
		at++
		p.Steps++
		kind, _, _ := inst.Of(i.Code)
		switch {
		case kind == inst.RetK:
			p.Value = i.K
			return p, true
		case kind == inst.Load:
			word, mask = int(i.K), all
		case kind == inst.Jump:
			at += int(i.K)
		case word < 0:
			return p, false
		case kind == inst.And:
			mask &= i.K
		default:
			is := len(p.Tests) >= len(answers) || answers[len(p.Tests)]
			p.Tests = append(p.Tests, asks(word, mask, kind, i.K, is))
			if is {
				at += int(i.Jt)
			} else {
				at += int(i.Jf)
			}
		}
	}
}

// toldAll tells the paths that All ought to tell; false, if the program is not plain.
func toldAll(l []inst.Inst) ([]paths.Path, bool) {
	for _, i := range l {
		if !strings.Contains(" 32 84 5 6 21 37 53 69 ", fmt.Sprintf(" %d ", i.Code)) {
			return nil, false
		}
	}
	var told []paths.Path
	for answers := []bool(nil); ; {
		p, ok := walk(l, answers)
		if !ok {
			return nil, false
		}
		told = append(told, p)
		// The next way leaves this one at the last branch that is so.
		answers = nil
		for _, x := range p.Tests {
			answers = append(answers, x.Is)
		}
		for len(answers) > 0 && !answers[len(answers)-1] {
			answers = answers[:len(answers)-1]
		}
		if len(answers) == 0 {
			return told, true
		}
		answers[len(answers)-1] = false
	}
}

// record tells the bytes of one with few words.
func (c *chance) record() []byte {
	b := make([]byte, 64)
	for at := 0; at < 64; at += 4 {
		binary.LittleEndian.PutUint32(b[at:], c.value())
	}
	return b
}

// P27.1, P27.2: over many programs, held against a second telling of the document's words; each record takes just one path, whose value and steps a run tells.
func TestManyPrograms(t *testing.T) {
	var c chance
	plain, branched := 0, 0
	for range 4000 {
		l := c.program()
		want, ok := toldAll(l)
		if !ok {
			isNone(t, l)
			continue
		}
		plain++
		has(t, l, want...)
		if len(want) > 3 {
			branched++
		}
		for range 10 {
			takesOne(t, l, want, c.record())
		}
		if t.Failed() {
			return
		}
	}
	if plain < 1500 || plain > 3900 || branched < 500 {
		t.Errorf("%d plain, %d with more than three paths", plain, branched)
	}
}

// takesOne holds a record to taking just one of a program's paths: that which it runs.
func takesOne(t *testing.T, l []inst.Inst, all []paths.Path, b []byte) {
	t.Helper()
	out, e := vm.Run(l, b)
	taken := 0
	for _, p := range all {
		if paths.Taken(p, b) {
			taken++
			if e != api.OK || p.Value != out.Value || p.Steps != out.Steps {
				t.Errorf("P27.2: %s: %s, not %v, %d", list.Text(l), brief(p), out, e)
			}
		}
	}
	if taken != 1 {
		t.Errorf("P27.2: %s: %d paths", list.Text(l), taken)
	}
}

// P27.2: a compiled program is plain; each record takes one of its paths, if they are not too many.
func TestCompiled(t *testing.T) {
	l := systab.Builtin()
	names := ""
	for at, r := range l {
		names += fmt.Sprintf("\n%s errno %d", r.Name, at)
	}
	for _, text := range []string{
		"default kill",
		"default allow\nx32 on",
		"default errno 38\nread allow\nwrite allow if a0 <= 2\nconnect kill",
		"default log\nx32 on\nread trap if a0 == 1 and a1 & 0x300000003 == 2 and a2 != 5\nread kill if a3 > 0x100000000\nsend allow\nmsgget trace 4",
		"default kill" + names,
		"default allow\nx32 on" + names,
	} {
		o, e := build.Compile(text, l)
		program, _ := inst.Read(o.Program)
		if e != api.OK || !paths.Plain(program) {
			t.Fatalf("P27.2: %.60q: %d", text, e)
		}
		all, e := paths.All(program)
		if e != api.OK {
			t.Fatalf("P27.2: %.60q: %d", text, e)
		}
		for at, r := range judge.Probes(l) {
			if at%7 == 0 {
				b := data.Write(r, false)
				takesOne(t, program, all, b[:])
			}
		}
	}
}

// R4, R5: what is handed in stays as it is, the room behind its end, too; what is handed out is new, and no two lists of it share memory.
func TestMemory(t *testing.T) {
	whole := program(t, "ld [0]", "jeq #1 0 2", "ld [16]", "jset #2 0 1", "ret #2", "ret #3", "neg", "neg")
	was := slices.Clone(whole)
	l := whole[:6]
	first, _ := paths.All(l)
	second, _ := paths.All(l)
	if !same(first, second) {
		t.Error("R5: not the same")
	}
	for at, p := range first {
		clear(p.Tests[:cap(p.Tests)])
		for _, other := range first[at+1:] {
			if slices.Equal(other.Tests, p.Tests) {
				t.Error("R4: two lists share memory")
			}
		}
	}
	b := make([]byte, 80)
	b[0], b[64] = 1, 9
	for range 2 {
		if paths.Taken(second[0], b[:64]) || !paths.Taken(second[1], b[:64]) {
			t.Error("P27.1: Taken")
		}
	}
	third, _ := paths.All(l)
	if !same(second, third) || !slices.Equal(whole, was) || b[0] != 1 || b[64] != 9 {
		t.Error("R4: what was handed in has changed")
	}
}
