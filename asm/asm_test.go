package asm_test

import (
	"fmt"
	"math"
	"slices"
	"strings"
	"testing"

	"strainer/api"
	"strainer/asm"
	"strainer/data"
	"strainer/flow"
	"strainer/gen"
	"strainer/inst"
	"strainer/list"
	"strainer/model"
	"strainer/policy"
	"strainer/resolve"
	"strainer/systab"
	"strainer/vm"
)

// Codes of instructions.
const (
	loads = 0x20
	neg   = 0x84
	ja    = 0x05
	jeq   = 0x15
	rets  = 0x06
	retA  = 0x16
)

// brief tells a thing's beginning.
func brief(a any) string { return fmt.Sprintf("%.900s", fmt.Sprintf("%+v", a)) }

// mark tells a mark; ret a return; jump a plain jump; branch a jump if equal.
func mark(n int) gen.Item { return gen.Item{Mark: n} }

func ret(k uint32) gen.Item { return gen.Item{Code: rets, K: k} }

func jump(to int) gen.Item { return gen.Item{Code: ja, True: to} }

func branch(yes, no int) gen.Item { return gen.Item{Code: jeq, K: 3, True: yes, False: no} }

// fill tells so many items that go on.
func fill(n int) []gen.Item {
	return slices.Repeat([]gen.Item{{Code: neg}}, n)
}

// join tells items one behind the other.
func join(parts ...any) []gen.Item {
	var l []gen.Item
	for _, p := range parts {
		switch x := p.(type) {
		case gen.Item:
			l = append(l, x)
		case []gen.Item:
			l = append(l, x...)
		}
	}
	return l
}

// assembled tells the program of items that have one, and holds Size to it.
func assembled(t *testing.T, l []gen.Item) []inst.Inst {
	t.Helper()
	program, e := asm.Assemble(l)
	if e != api.OK || len(program) == 0 {
		t.Fatalf("P21.1: %d, of %s", e, brief(l))
	}
	if n := asm.Size(l); n != len(program) {
		t.Errorf("P21.1: a size of %d, not of %d", n, len(program))
	}
	return program
}

// P21.1: the document's example, and programs without a far jump, as text.
func TestAssemble(t *testing.T) {
	for at, c := range []struct {
		l    []gen.Item
		want string
	}{
		{[]gen.Item{branch(1, 0), ret(1), mark(1), ret(2)}, "jeq #3 1 0\nret #1\nret #2\n"},
		{[]gen.Item{ret(0)}, "ret #0\n"},
		{[]gen.Item{{Code: retA}}, "ret a\n"},
		{[]gen.Item{{}, ret(1)}, "ld #0\nret #1\n"}, // no mark: 0 into A
		{[]gen.Item{mark(1), ret(1)}, "ret #1\n"},
		{[]gen.Item{mark(7), mark(math.MaxInt), mark(3), {Code: loads, K: 4}, mark(9), {Code: retA}}, "ld [4]\nret a\n"},
		{[]gen.Item{jump(0), ret(1)}, "ja 0\nret #1\n"},
		{[]gen.Item{jump(5), mark(5), ret(1)}, "ja 0\nret #1\n"},
		{[]gen.Item{{Code: ja, K: 77, True: 5}, mark(5), ret(1)}, "ja 0\nret #1\n"}, // the mark tells where it goes
		{[]gen.Item{{Code: ja, K: 77}, ret(1)}, "ja 0\nret #1\n"},
		{[]gen.Item{branch(0, 0), ret(1)}, "jeq #3 0 0\nret #1\n"},
		{[]gen.Item{branch(1, 1), mark(1), ret(1)}, "jeq #3 0 0\nret #1\n"},
		{[]gen.Item{branch(1, 1), ret(2), mark(1), ret(1)}, "jeq #3 0 0\nret #1\n"},
		{[]gen.Item{branch(0, 1), ret(2), mark(1), ret(1)}, "jeq #3 0 1\nret #2\nret #1\n"},
		{[]gen.Item{branch(1, 2), ret(2), mark(1), mark(2), ret(1)}, "jeq #3 0 0\nret #1\n"},
		{[]gen.Item{branch(1, 2), ret(2), mark(2), ret(4), mark(1), ret(1)}, "jeq #3 1 0\nret #4\nret #1\n"},
		{[]gen.Item{branch(2, 1), {Code: neg}, mark(2), {Code: neg}, mark(1), {Code: retA}}, "jeq #3 0 1\nneg\nret a\n"},
		{[]gen.Item{branch(0, 2), {Code: neg}, mark(2), {Code: neg}, {Code: retA}}, "jeq #3 0 1\nneg\nneg\nret a\n"},
		{[]gen.Item{{Code: 0x25, K: 1, True: 1}, {Code: 0x35, K: 2, False: 1}, {Code: 0x45, K: 4, True: 2, False: 1}, mark(2), ret(2), mark(1), ret(1)}, "jgt #1 3 0\njge #2 0 2\njset #4 0 1\nret #2\nret #1\n"},
		{[]gen.Item{{Code: 0x1d, True: 1}, {Code: 0x2d, False: 1}, {Code: 0x3d, True: 1, False: 2}, mark(2), {Code: 0x4d, False: 1}, ret(2), mark(1), ret(1)}, "jeq x 4 0\njgt x 0 3\njge x 2 0\njset x 0 1\nret #2\nret #1\n"},
		{[]gen.Item{ret(1), ret(2), mark(9), ret(3)}, "ret #1\n"}, // no way leads behind the first one
		{[]gen.Item{{Code: retA}, mark(9), {Code: loads, K: 3}, ret(3)}, "ret a\n"},
		{[]gen.Item{jump(1), ret(2), mark(1), ret(1)}, "ja 0\nret #1\n"},
		{[]gen.Item{jump(1), branch(2, 0), ret(2), mark(2), ret(3), mark(1), ret(1)}, "ja 0\nret #1\n"},
		{[]gen.Item{jump(1), mark(3), {Code: neg}, mark(1), ret(1)}, "ja 0\nret #1\n"},
		{[]gen.Item{jump(1), jump(2), ret(7), mark(1), ret(1), mark(2), ret(2)}, "ja 0\nret #1\n"},
		{[]gen.Item{branch(1, 2), ret(9), mark(2), jump(3), ret(9), mark(1), ret(1), ret(9), mark(3), ret(3)}, "jeq #3 1 0\nja 1\nret #1\nret #3\n"},
		{[]gen.Item{branch(4, 0), jump(4), ret(8), mark(4), mark(5), ret(5), mark(6), ret(6)}, "jeq #3 1 0\nja 0\nret #5\n"},
		{[]gen.Item{{Code: 0x02, K: 15}, {Code: 0x60, K: 15}, {Code: 0x54, K: 7}, {Code: 0x07}, {Code: 0x0c}, {Code: 0x61, K: 15}, {Code: retA}}, "st m[15]\nld m[15]\nand #7\ntax\nadd x\nldx m[15]\nret a\n"},
	} {
		program := assembled(t, c.l)
		if text := list.Text(program); text != c.want {
			t.Errorf("P21.1: %d: %q, not %q", at, text, c.want)
		}
	}
}

// P21.1: what is no jump has no jumps, a plain one neither; codes and numbers stay as they are.
func TestFields(t *testing.T) {
	l := []gen.Item{{Code: 0x80, K: 5}, {Code: neg, K: 6}, {Code: 0x1d, K: 7, True: 2}, {Code: ja, K: 8, True: 2}, mark(2), {Code: retA, K: 9}}
	want := []inst.Inst{{Code: 0x80, K: 5}, {Code: neg, K: 6}, {Code: 0x1d, Jt: 1, K: 7}, {Code: ja}, {Code: retA, K: 9}}
	if program := assembled(t, l); !slices.Equal(program, want) {
		t.Errorf("P21.1: %v, not %v", program, want)
	}
}

// far tells a jump that goes so far for true, and so far for false. Some way leads to all that lies between: the first item leads behind the jump.
func far(yes, no int) []gen.Item {
	first, second := mark(1), mark(2)
	if no < yes {
		first, second = second, first
	}
	near, rest := min(yes, no), max(yes, no)-min(yes, no)
	return join(branch(3, 0), branch(1, 2), mark(3), fill(near), first, fill(rest-1), ret(1), second, ret(2))
}

// P21.1: a jump above 255 stands apart, by the one or by the other, and none else does.
func TestFar(t *testing.T) {
	fars := []int{0, 1, 2, 253, 254, 255, 256, 257, 258, 300, 4000}
	for _, yes := range fars {
		for _, no := range fars {
			if yes == no {
				continue
			}
			want := []inst.Inst{{Code: jeq, Jt: 1, K: 3}, {Code: jeq, Jt: uint8(yes), Jf: uint8(no), K: 3}}
			if yes > 255 || no > 255 {
				want = []inst.Inst{{Code: jeq, Jt: 3, K: 3}, {Code: jeq, Jt: 0, Jf: 1, K: 3}, {Code: ja, K: uint32(yes + 1)}, {Code: ja, K: uint32(no)}}
			}
			program := assembled(t, far(yes, no))
			if n := len(want) + max(yes, no) + 1; len(program) != n {
				t.Errorf("P21.1: %d, %d: %d instructions, not %d", yes, no, len(program), n)
				continue
			}
			if !slices.Equal(program[:len(want)], want) {
				t.Errorf("P21.1: %d, %d: %v, not %v", yes, no, program[:len(want)], want)
			}
		}
	}
}

// P21.1: both marks of a jump may be one; the next one for true, or for false, may be named by 0.
func TestFarOne(t *testing.T) {
	for _, n := range []int{254, 255, 256, 1000} {
		for _, c := range []struct{ yes, no int }{{1, 1}, {1, 0}, {0, 1}} {
			program := assembled(t, join(branch(c.yes, c.no), fill(n-1), ret(1), mark(1), ret(2)))
			yes, no := c.yes*n, c.no*n
			want := []inst.Inst{{Code: jeq, Jt: uint8(yes), Jf: uint8(no), K: 3}}
			if n > 255 {
				want = []inst.Inst{{Code: jeq, Jt: 0, Jf: 1, K: 3}, {Code: ja, K: uint32(yes + 1)}, {Code: ja, K: uint32(no)}}
			}
			if c.yes == c.no { // no way leads to what lies between
				want = []inst.Inst{{Code: jeq, K: 3}}
			}
			if !slices.Equal(program[:len(want)], want) {
				t.Errorf("P21.1: %d, %d: %v, not %v", n, c, program[:len(want)], want)
			}
		}
	}
}

// P21.1: a plain jump is never too far.
func TestPlain(t *testing.T) {
	for _, n := range []int{254, 255, 256, 257, 4000} {
		program := assembled(t, join(branch(0, 2), jump(1), mark(2), fill(n-1), ret(1), mark(1), ret(2)))
		if len(program) != n+3 || program[1] != (inst.Inst{Code: ja, K: uint32(n)}) {
			t.Errorf("P21.1: %d: %d instructions, %v", n, len(program), program[1])
		}
	}
}

// P21.1: neither marks nor what no way leads to make a jump longer.
func TestNotCounted(t *testing.T) {
	marks := make([]gen.Item, 300)
	for at := range marks {
		marks[at] = mark(at + 10)
	}
	for _, more := range []int{0, 1} {
		l := join(branch(1, 0), fill(100), marks, fill(154+more), ret(1), ret(9), fill(300), branch(1, 3), ret(7), mark(3), fill(300), mark(1), ret(2))
		program := assembled(t, l)
		if len(program) != 257+3*more {
			t.Errorf("P21.1: %d more: %d instructions", more, len(program))
		}
		want := []inst.Inst{{Code: jeq, Jt: 255, K: 3}, {Code: jeq, Jf: 1, K: 3}}[more]
		if program[0] != want {
			t.Errorf("P21.1: %d more: %v, not %v", more, program[0], want)
		}
	}
}

// P21.1: a jump becomes too far by one that stands apart within it, and only by such.
func TestWithin(t *testing.T) {
	for _, c := range []struct{ outer, inner, apart int }{
		{253, 255, 0}, {255, 255, 0}, {256, 255, 1},
		{252, 256, 1}, {253, 256, 1}, {254, 256, 2}, {255, 256, 2}, {256, 256, 2},
		{253, 300, 1}, {254, 300, 2},
	} {
		// The inner jump stands 10 behind the outer one; what is told is how far either leads, if none stands apart.
		l := join(branch(1, 0), fill(10), branch(2, 0), fill(c.outer-12), ret(1), mark(1), fill(10+c.inner-c.outer), ret(3), mark(2), ret(2))
		program := assembled(t, l)
		if want := c.inner + 13 + 2*c.apart; len(program) != want {
			t.Errorf("P21.1: %d: %d instructions, not %d", c, len(program), want)
		}
		if outer := program[0].Jf == 1; outer != (c.apart == 2 || c.outer > 255) {
			t.Errorf("P21.1: %d: the outer one apart: %t", c, outer)
		}
	}
	// One that stands ahead of a jump, or at its end, or behind it makes it no longer.
	for at, l := range [][]gen.Item{
		join(branch(2, 0), branch(1, 0), fill(254), ret(1), mark(1), fill(10), ret(3), mark(2), ret(2)),
		join(branch(1, 0), fill(254), ret(1), mark(1), branch(2, 0), fill(270), ret(3), mark(2), ret(2)),
		join(branch(1, 0), fill(254), ret(1), mark(1), fill(3), branch(2, 0), fill(270), ret(3), mark(2), ret(2)),
	} {
		n := 0
		for _, i := range assembled(t, l) {
			if i.Code == ja {
				n++
			}
		}
		if n != 2 {
			t.Errorf("P21.1: %d: %d plain jumps", at, n)
		}
	}
}

// chain tells jumps one behind the other, each with the next one within; the last one leads so far, the others 255.
func chain(n, last int) []gen.Item {
	var l []gen.Item
	for at := range n {
		l = append(l, branch(at+1, 0))
		if at == n-1 {
			break
		}
		l = append(l, fill(199)...)
		if at > 0 {
			l = slices.Insert(l, len(l)-199+55, mark(at))
		}
	}
	l = append(l, fill(55)...)
	if n > 1 {
		l = append(l, mark(n-1))
	}
	return append(l, join(fill(last-55-1), ret(1), mark(n), ret(2))...)
}

// P21.1: what stands apart for one that stands apart, for one that stands apart .. R1: however long the chain is, it ends soon.
func TestChain(t *testing.T) {
	for _, n := range []int{1, 2, 3, 10, 19, 1000} {
		for _, last := range []int{255, 256} {
			want := 200*(n-1) + 1 + last + 1
			if last > 255 {
				want += 2 * n
			}
			l := chain(n, last)
			if size := asm.Size(l); size != want {
				t.Errorf("P21.1: %d, %d: a size of %d, not of %d", n, last, size, want)
			}
			program, e := asm.Assemble(l)
			if want <= api.MaxInst && (e != api.OK || len(program) != want) || want > api.MaxInst && (e != api.ErrLong || program != nil) {
				t.Errorf("P21.1: %d, %d: %d instructions, %d", n, last, len(program), e)
			}
		}
	}
}

// P21.1: what is not formed has no program, and no size.
func TestNotFormed(t *testing.T) {
	tooLong := join(fill(api.MaxInst+1), ret(1))
	for at, l := range [][]gen.Item{
		nil,
		{},
		{mark(1)},
		{{}},
		{jump(0)},
		{branch(0, 0)},
		{ret(1), mark(1)},
		{ret(1), {Code: neg}},
		{jump(1), ret(1)},
		{mark(1), jump(1), ret(1)},
		{ret(1), mark(1), jump(1), ret(1)}, // where no way leads, too
		{branch(1, 2), mark(1), ret(1)},
		{branch(-1, 0), mark(-1), ret(1)},
		{mark(1), mark(1), ret(1)},
		{jump(1), mark(1), mark(1), ret(1)},
		{{Code: 40}, ret(1)},
		{{Code: 0x9d}, ret(1)},
		{{Code: rets, True: 1}, mark(1), ret(1)},
		{{Code: neg, False: 1}, mark(1), ret(1)},
		{{Code: ja, False: 1}, mark(1), ret(1)},
		{{Mark: 1, K: 1}, ret(1)},
		{{Mark: 1, Code: rets}},
		join(tooLong, mark(1)),
		join(gen.Item{Code: loads, K: 2}, jump(1), ret(1)),
	} {
		if program, e := asm.Assemble(l); e != api.ErrArg || program != nil {
			t.Errorf("P21.1: %d: %v, %d", at, program, e)
		}
		if n := asm.Size(l); n != 0 {
			t.Errorf("P21.1: %d: a size of %d", at, n)
		}
	}
}

// P21.1: a program has at most 4096 instructions; what counts are those of the program, not the items.
func TestLong(t *testing.T) {
	wrong := gen.Item{Code: loads, K: 2}
	rest := func(n int) []gen.Item { return join(fill(n-1), ret(1)) }
	for at, c := range []struct {
		l    []gen.Item
		size int
		e    api.Errno
	}{
		{rest(4095), 4095, api.OK},
		{rest(4096), 4096, api.OK},
		{rest(4097), 4097, api.ErrLong},
		{rest(9000), 9000, api.ErrLong},
		{join(mark(1), rest(4000), mark(2), rest(4000)), 4000, api.OK},
		{join(jump(1), rest(9000), mark(1), rest(4095)), 4096, api.OK},
		{join(jump(1), rest(9000), mark(1), rest(4096)), 4097, api.ErrLong},
		{join(slices.Repeat([]gen.Item{jump(1)}, 5000), mark(1), ret(1)), 2, api.OK},
		// With its plain jumps a jump is three.
		{join(branch(1, 0), fill(255), mark(1), rest(4096-1-255)), 4096, api.OK},
		{join(branch(1, 0), fill(256), mark(1), rest(4096-3-256)), 4096, api.OK},
		{join(branch(1, 0), fill(256), mark(1), rest(4096-2-256)), 4097, api.ErrLong},
		{join(branch(0, 1), fill(256), mark(1), rest(4096-1-256)), 4098, api.ErrLong},
		// That it is too long is told ahead of layer 4's other errors.
		{join(wrong, rest(4096)), 4097, api.ErrLong},
		{join(wrong, rest(4095)), 4096, api.ErrLoad},
		{join(rest(4000), fill(96), wrong, rest(3)), 4000, api.OK},
	} {
		program, e := asm.Assemble(c.l)
		if e != c.e || e == api.OK && len(program) != c.size || e != api.OK && program != nil {
			t.Errorf("P21.1: %d: %d instructions, %d, not %d, %d", at, len(program), e, c.size, c.e)
		}
		if n := asm.Size(c.l); n != c.size {
			t.Errorf("P21.1: %d: a size of %d, not of %d", at, n, c.size)
		}
	}
}

// P21.1: layer 4's errors, of what the program has alone; the size is told all the same.
func TestMayNotRun(t *testing.T) {
	for at, c := range []struct {
		wrong []gen.Item
		size  int
		e     api.Errno
	}{
		{[]gen.Item{{Code: loads, K: 2}}, 2, api.ErrLoad},
		{[]gen.Item{{Code: loads, K: 64}}, 2, api.ErrLoad},
		{[]gen.Item{{Code: 0x02, K: 16}}, 2, api.ErrMem},
		{[]gen.Item{{Code: 0x61, K: 16}}, 2, api.ErrMem},
		{[]gen.Item{{Code: 0x34}}, 2, api.ErrZero},
		{[]gen.Item{{Code: 0x64, K: 32}}, 2, api.ErrShift},
		{[]gen.Item{{Code: 0x74, K: 32}}, 2, api.ErrShift},
		{[]gen.Item{{Code: 0x60}}, 2, api.ErrInit},
		{[]gen.Item{{Code: 0x60}, {Code: 0x34}, {Code: 0x64, K: 32}}, 4, api.ErrZero}, // the first one counts
		{[]gen.Item{branch(1, 0), {Code: 0x02, K: 1}, mark(1), {Code: 0x60, K: 1}}, 4, api.ErrInit},
		{join(branch(1, 0), fill(300), gen.Item{Code: 0x02, K: 1}, mark(1), gen.Item{Code: 0x60, K: 1}), 306, api.ErrInit},
	} {
		l := join(c.wrong, ret(1))
		if program, e := asm.Assemble(l); e != c.e || program != nil {
			t.Errorf("P21.1: %d: %v, %d, not %d", at, program, e, c.e)
		}
		if n := asm.Size(l); n != c.size {
			t.Errorf("P21.1: %d: a size of %d, not of %d", at, n, c.size)
		}
		for _, ahead := range [][]gen.Item{{ret(5)}, {jump(9), ret(5)}} {
			l := join(ahead, c.wrong, ret(1), mark(9), ret(1))
			if program := assembled(t, l); len(program) != len(ahead) {
				t.Errorf("P21.1: %d: %v, of what no way leads to", at, program)
			}
		}
	}
	// A cell that is stored on every way that there is.
	for _, l := range [][]gen.Item{
		{branch(1, 2), {Code: neg}, mark(1), {Code: 0x02, K: 1}, jump(3), mark(2), {Code: 0x03, K: 1}, mark(3), {Code: 0x60, K: 1}, {Code: retA}},
		join(branch(1, 2), fill(3), mark(1), gen.Item{Code: 0x02, K: 1}, fill(300), jump(3), mark(2), gen.Item{Code: 0x03, K: 1}, mark(3), gen.Item{Code: 0x60, K: 1}, ret(1)),
	} {
		assembled(t, l)
	}
}

// chance tells numbers that are the same each time.
type chance uint64

func (c *chance) below(n int) int {
	*c = *c*6364136223846793005 + 1442695040888963407
	mixed := uint64(*c>>32) ^ uint64(*c>>47)
	return int((mixed * 0x9e3779b97f4a7c15 >> 33) % uint64(n))
}

// one tells an item that is neither a mark nor a jump nor a return, and that may run.
func (c *chance) one() gen.Item {
	codes := []uint16{0x20, 0x20, 0x00, 0x60, 0x80, 0x01, 0x61, 0x81, 0x84, 0x02, 0x03, 0x07, 0x87, 0x04, 0x14, 0x24, 0x34, 0x44, 0x54, 0x64, 0x74, 0xa4, 0x0c, 0x1c, 0x2c, 0x3c, 0x4c, 0x5c, 0x6c, 0x7c, 0xac}
	x := gen.Item{Code: codes[c.below(len(codes))], K: uint32(c.below(1 << 20))}
	kind, withX, _ := inst.Of(x.Code)
	switch {
	case kind == inst.Load:
		x.K = uint32(4 * c.below(16))
	case kind == inst.Cell || kind == inst.CellX || kind == inst.Store || kind == inst.StoreX:
		x.K = uint32(c.below(api.Cells))
	case kind == inst.Div && !withX:
		x.K++
	case (kind == inst.Lsh || kind == inst.Rsh) && !withX:
		x.K %= 32
	}
	return x
}

// shape is what formed items are like, in parts of a hundred: marks, jumps, plain ones and returns; and how many marks ahead a jump may lead.
type shape struct{ marks, branches, plain, rets, ahead int }

// items tells formed ones, from the last one on; all cells are stored ahead of them.
func (c *chance) items(n int, s shape) []gen.Item {
	back := []gen.Item{{Code: retA}}
	var marks []int // the nearest one last
	to := func() int {
		if len(marks) == 0 || c.below(6) == 0 {
			return 0
		}
		return marks[len(marks)-1-c.below(min(s.ahead, len(marks)))]
	}
	codes := []uint16{0x15, 0x25, 0x35, 0x45, 0x1d, 0x2d, 0x3d, 0x4d}
	for range n {
		switch at := c.below(100); {
		case at < s.marks:
			m := 1 + (len(marks)*7919+13)%1000003
			marks = append(marks, m)
			back = append(back, mark(m))
		case at < s.marks+s.branches:
			x := gen.Item{Code: codes[c.below(8)], K: uint32(c.below(4)) << (8 * c.below(4)), True: to(), False: to()}
			// If both led on far, there would be few items that any way leads to.
			switch both := c.below(150) == 0; {
			case both:
			case c.below(2) == 0:
				x.True = 0
			default:
				x.False = 0
			}
			back = append(back, x)
		case at < s.marks+s.branches+s.plain:
			back = append(back, jump(to()))
		case at < s.marks+s.branches+s.plain+s.rets:
			back = append(back, ret(uint32(c.below(1000))))
		default:
			back = append(back, c.one())
		}
	}
	for n := range uint32(api.Cells) {
		back = append(back, gen.Item{Code: 0x02, K: n})
	}
	slices.Reverse(back)
	return back
}

// shapes tells some: few jumps that lead far, many that lead near, jumps alone, much that no way leads to.
func shapes() []shape {
	return []shape{{5, 20, 0, 0, 20}, {5, 5, 1, 0, 1000}, {20, 30, 1, 1, 150}, {35, 63, 1, 0, 150}, {10, 30, 20, 30, 20}, {2, 60, 0, 0, 7}, {40, 60, 0, 0, 220}, {1, 98, 0, 0, 3}}
}

// leads tells where an item leads, by the items' numbers.
func leads(l []gen.Item, at int) []int {
	x := l[at]
	place := func(to int) int {
		if to == 0 {
			return at + 1
		}
		return slices.Index(l, mark(to))
	}
	kind, _, _ := inst.Of(x.Code)
	switch {
	case x.Mark != 0:
		return []int{at + 1}
	case kind == inst.RetK || kind == inst.RetA:
		return nil
	case kind == inst.Jump:
		return []int{place(x.True)}
	case kind >= inst.Equal:
		return []int{place(x.True), place(x.False)}
	}
	return []int{at + 1}
}

// toldProgram tells the program of formed items, as the document's words go: what some way leads to; then places anew, until nothing is too far. It tells how many stand apart, too.
func toldProgram(l []gen.Item) ([]inst.Inst, int) {
	met := make([]bool, len(l))
	work := []int{0}
	to := make([][]int, len(l))
	for len(work) > 0 {
		at := work[0]
		work = work[1:]
		if met[at] {
			continue
		}
		met[at] = true
		to[at] = leads(l, at)
		work = append(work, to[at]...)
	}
	apart := make([]bool, len(l))
	places := make([]int, len(l))
	tooFar := func(at int) bool {
		x := l[at]
		return met[at] && x.Code&7 == 5 && x.Code != ja && !apart[at] && (places[to[at][0]]-places[at] > 256 || places[to[at][1]]-places[at] > 256)
	}
	for again := true; again; {
		n := 0
		for at, x := range l {
			places[at] = n
			switch {
			case !met[at] || x.Mark != 0:
			case apart[at]:
				n += 3
			default:
				n++
			}
		}
		again = false
		for at := range l {
			if tooFar(at) {
				apart[at], again = true, true
			}
		}
	}
	var program []inst.Inst
	many := 0
	for at, x := range l {
		if !met[at] || x.Mark != 0 {
			continue
		}
		i, here := inst.Inst{Code: x.Code, K: x.K}, places[at]+1
		switch {
		case x.Code == ja:
			i.K = uint32(places[to[at][0]] - here)
		case apart[at]:
			i.Jf = 1
			many++
			yes, no := places[to[at][0]], places[to[at][1]]
			program = append(program, i, inst.Inst{Code: ja, K: uint32(yes - here - 1)}, inst.Inst{Code: ja, K: uint32(no - here - 2)})
			continue
		case x.Code&7 == 5:
			i.Jt, i.Jf = uint8(places[to[at][0]]-here), uint8(places[to[at][1]]-here)
		}
		program = append(program, i)
	}
	return program, many
}

// P21.1: of many items, held against a second telling; no more stand apart than must. P21.2: how many there are at most, and that a way leads to each.
func TestTold(t *testing.T) {
	var c chance
	apart := 0
	for _, s := range shapes() {
		for n := range 60 {
			l := c.items(c.below(40+50*n), s)
			want, many := toldProgram(l)
			if size := asm.Size(l); size != len(want) || size > 3*len(l) {
				t.Fatalf("P21.1: a size of %d, not of %d, of %s", size, len(want), brief(l))
			}
			program, e := asm.Assemble(l)
			if len(want) > api.MaxInst {
				want = nil
			}
			if (e != api.OK) != (want == nil) || !slices.Equal(program, want) {
				t.Fatalf("P21.1: %d, %s, not %s, of %s", e, brief(program), brief(want), brief(l))
			}
			if slices.Contains(flow.Reach(program), false) {
				t.Fatalf("P21.2: no way leads to some, of %s", brief(program))
			}
			if want != nil && many > 0 {
				apart++
			}
		}
	}
	if apart < 150 {
		t.Errorf("only %d with some apart", apart)
	}
}

// run tells what a run of items over a record's bytes tells.
func run(t *testing.T, l []gen.Item, b []byte) uint32 {
	t.Helper()
	var a, x uint32
	var cells [api.Cells]uint32
	for at := 0; at < len(l); at++ {
		i := l[at]
		if i.Mark != 0 {
			continue
		}
		kind, withX, _ := inst.Of(i.Code)
		other := i.K
		if withX {
			other = x
		}
		is := true
		switch kind {
		case inst.Load:
			a = uint32(b[i.K]) | uint32(b[i.K+1])<<8 | uint32(b[i.K+2])<<16 | uint32(b[i.K+3])<<24
		case inst.Imm:
			a = i.K
		case inst.Cell:
			a = cells[i.K]
		case inst.Len:
			a = api.RecordSize
		case inst.ImmX:
			x = i.K
		case inst.CellX:
			x = cells[i.K]
		case inst.LenX:
			x = api.RecordSize
		case inst.Store:
			cells[i.K] = a
		case inst.StoreX:
			cells[i.K] = x
		case inst.ToX:
			x = a
		case inst.ToA:
			a = x
		case inst.Neg:
			a = -a
		case inst.RetK:
			return i.K
		case inst.RetA:
			return a
		case inst.Add:
			a += other
		case inst.Sub:
			a -= other
		case inst.Mul:
			a *= other
		case inst.Div:
			if other == 0 {
				return 0
			}
			a /= other
		case inst.Or:
			a |= other
		case inst.And:
			a &= other
		case inst.Lsh:
			a <<= other % 32
		case inst.Rsh:
			a >>= other % 32
		case inst.Xor:
			a ^= other
		case inst.Equal:
			is = a == other
		case inst.Greater:
			is = a > other
		case inst.Least:
			is = a >= other
		case inst.Common:
			is = a&other != 0
		}
		to := i.False
		if is {
			to = i.True
		}
		if to != 0 {
			at = slices.Index(l, mark(to))
		}
	}
	t.Fatal("a run without an end")
	return 0
}

// P21.2: a run of the program tells what a run of the items tells, over many items and records.
func TestRuns(t *testing.T) {
	var c chance
	told := map[uint32]int{}
	for _, s := range shapes() {
		for range 60 {
			l := c.items(c.below(2500), s)
			program, e := asm.Assemble(l)
			if e == api.ErrLong {
				continue
			}
			m, e := vm.New(program)
			if e != api.OK {
				t.Fatalf("P21.2: %d, of %s", e, brief(l))
			}
			for range 20 {
				b := make([]byte, api.RecordSize)
				for at := range b {
					b[at] = byte(c.below(256) * c.below(2))
				}
				want := run(t, l, b)
				if out, e := m.Run(b); e != api.OK || out.Value != want {
					t.Fatalf("P21.2: %d, %d, not %d, of %s", out.Value, e, want, brief(l))
				}
				told[want]++
			}
		}
	}
	if len(told) < 500 {
		t.Errorf("only %d numbers", len(told))
	}
}

// P21.2: of a policy's plan, with jumps that are far: the program tells what the policy judges.
func TestPolicies(t *testing.T) {
	l := systab.Builtin()
	text := "default errno 1\nx32 on"
	for at, r := range l {
		switch {
		case r.Mux > 0 || at%3 > 0:
			text += fmt.Sprintf("\n%s errno %d", r.Name, 2+at)
		default:
			text += fmt.Sprintf("\n%s trace %d if a1 & 12884901889 == 1\n%s log if a0 < 3", r.Name, at, r.Name)
		}
	}
	for _, text := range []string{"default allow", "default kill\nread allow", text, strings.Replace(text, "x32 on", "x32 off", 1)} {
		p, _, e := policy.Parse(text)
		if e != api.OK {
			t.Fatal(e)
		}
		plan, _, e := resolve.Resolve(p, l)
		if e != api.OK {
			t.Fatal(e)
		}
		program := assembled(t, gen.Items(plan))
		m, _ := vm.New(program)
		for _, r := range records(l) {
			want, _ := model.Judge(p, l, r)
			b := data.Write(r, false)
			if out, e := m.Run(b[:]); e != api.OK || out.Value != want {
				t.Fatalf("P21.2: %#x: %#x, %d, not %#x", r, out.Value, e, want)
			}
		}
	}
}

// records tells some of each number of a table, and of each way to call.
func records(l []systab.Row) []data.Record {
	var all []data.Record
	for _, row := range l {
		for a, arch := range []uint32{0xc000003e, 0xc000003e, 0x40000003, 0xc00000b7, 0xc00000f3} {
			n := uint32(row.Numbers[a])
			if a == api.X32 {
				n |= 1 << 30
			}
			for _, args := range [][6]uint64{{2}, {3}, {5, 1}, {5, 1 << 33}, {1 << 32, 1<<34 + 1}} {
				all = append(all, data.Record{Arch: arch, Number: n, Args: args})
			}
		}
	}
	for n := range uint64(30) {
		for _, number := range []uint32{102, 117} {
			all = append(all, data.Record{Arch: 0x40000003, Number: number, Args: [6]uint64{n}})
		}
	}
	return append(all, data.Record{}, data.Record{Arch: 1}, data.Record{Arch: 0xc000003e, Number: math.MaxUint32})
}

// R4, R5: what is handed in stays as it is, the room behind its end, too; what is handed out is new each time, and the same.
func TestMemory(t *testing.T) {
	room := join(branch(1, 0), fill(300), ret(1), mark(1), ret(2), branch(7, 7), mark(1))
	l, was := room[:len(room)-2], slices.Clone(room)
	first, second := assembled(t, l), assembled(t, l)
	if !slices.Equal(room, was) {
		t.Error("R4: the items have changed")
	}
	if !slices.Equal(first, second) {
		t.Error("R5: not the same")
	}
	for at := range first[:cap(first)] {
		first[:cap(first)][at] = inst.Inst{Code: 0xffff}
	}
	if third := assembled(t, l); !slices.Equal(third, second) || slices.Equal(first, second) {
		t.Error("R4: what was handed out is not new")
	}
	if !slices.Equal(room, was) {
		t.Error("R4: it shares its memory with the items")
	}
}

// dense tells jumps alone, so many, of which each leads over so many others, but the last ones: those lead far behind all.
func dense(n, over int) []gen.Item {
	const last = 86
	var l []gen.Item
	for at := range n {
		to := at + 1 + over
		if at >= n-last {
			to = n + 1
		}
		l = append(l, mark(at+1), branch(to+1, 0))
	}
	return append(l, join(mark(n+1), fill(299), ret(1), mark(n+2), ret(2))...)
}

// R1: of very many items, of which one after the other stands apart for those behind it, the size is told soon.
func TestMany(t *testing.T) {
	const n = 100000
	for _, c := range []struct{ over, apart int }{{85, 86}, {86, n}} { // 85 others of three each are 255
		l := dense(n, c.over)
		if size, want := asm.Size(l), n+301+2*c.apart; size != want {
			t.Errorf("P21.1: over %d others: a size of %d, not of %d", c.over, size, want)
		}
		if program, e := asm.Assemble(l); e != api.ErrLong || program != nil {
			t.Errorf("P21.1: over %d others: %d", c.over, e)
		}
	}
	for _, c := range []struct{ over, apart int }{{85, 86}, {86, 600}} {
		if program := assembled(t, dense(600, c.over)); len(program) != 600+301+2*c.apart {
			t.Errorf("P21.1: over %d others: %d instructions", c.over, len(program))
		}
	}
}
