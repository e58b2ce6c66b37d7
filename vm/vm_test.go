package vm_test

import (
	"bytes"
	"math"
	"slices"
	"testing"

	"strainer/api"
	"strainer/check"
	"strainer/inst"
	"strainer/vm"
)

// Codes of the tests' instructions: x more, if the other side is X.
const (
	load, imm, cell, length = 0x20, 0x00, 0x60, 0x80
	immX, cellX, lengthX    = 0x01, 0x61, 0x81
	store, storeX           = 0x02, 0x03
	toX, toA, neg           = 0x07, 0x87, 0x84
	ja, retK, retA          = 0x05, 0x06, 0x16
	add, sub, mul, div      = 0x04, 0x14, 0x24, 0x34
	or, and, lsh, rsh, xor  = 0x44, 0x54, 0x64, 0x74, 0xa4
	jeq, jgt, jge, jset     = 0x15, 0x25, 0x35, 0x45
	x                       = 8
)

var branches = []uint16{jeq, jgt, jge, jset}

// edges are numbers where something goes round, or a sign would count.
var edges = []uint32{0, 1, 2, 3, 7, 31, 32, 33, 63, 64, 0xff, 0x100, 0xffff, 0x10000, 0x10001, 1<<31 - 1, 1 << 31, 1<<31 + 1, 0xaaaaaaaa, 0x55555555, math.MaxUint32 - 1, math.MaxUint32}

func is(i inst.Inst, codes ...uint16) bool { return slices.Contains(codes, i.Code) }

// mixed tells a record's bytes, other ones for another seed.
func mixed(seed uint32) []byte {
	b := make([]byte, 64)
	c := chance(seed)
	for i := range b {
		b[i] = byte(c.below(256))
	}
	return b
}

// fill tells so many instructions that do something, and a return of A behind them.
func fill(many int) []inst.Inst {
	l := slices.Repeat([]inst.Inst{{Code: add, K: 1}}, many-1)
	return append(l, inst.Inst{Code: retA})
}

func same(a, b vm.Out) bool {
	return a.Value == b.Value && a.Steps == b.Steps && slices.Equal(a.Loads, b.Loads)
}

// runs holds both ways to run a program to an answer, and the second run of a machine to the first one's.
func runs(t *testing.T, l []inst.Inst, b []byte, value uint32, steps int, loads ...int) {
	t.Helper()
	want := vm.Out{Value: value, Steps: steps, Loads: loads}
	if o, e := vm.Run(l, b); !same(o, want) || e != api.OK {
		t.Errorf("Run of %v: %v, %d; not %v", l[:min(len(l), 12)], o, e, want)
	}
	m, e := vm.New(l)
	if e != api.OK {
		t.Errorf("New of %v: %d", l[:min(len(l), 12)], e)
		return
	}
	for n := range 2 {
		if o, e := m.Run(b); !same(o, want) || e != api.OK {
			t.Errorf("run %d of a machine of %v: %v, %d; not %v", n, l[:min(len(l), 12)], o, e, want)
		}
	}
}

// fails holds an answer to an error, with nothing beside it (R2).
func fails(t *testing.T, o vm.Out, e, want api.Errno) {
	t.Helper()
	if e != want || !same(o, vm.Out{}) {
		t.Errorf("%v, %d; not error %d", o, e, want)
	}
}

// P6.1: the document's example.
func TestExample(t *testing.T) {
	b := make([]byte, 64)
	b[0] = 7
	runs(t, []inst.Inst{{Code: load}, {Code: retA}}, b, 7, 2, 0)
}

// P6.1: layer 4's error of each program that may not run, and no machine; ahead of an error of the bytes.
func TestWrongPrograms(t *testing.T) {
	end := inst.Inst{Code: retA}
	for _, c := range []struct {
		l []inst.Inst
		e api.Errno
	}{
		{nil, api.ErrEmpty},
		{[]inst.Inst{}, api.ErrEmpty},
		{fill(api.MaxInst + 1), api.ErrLong},
		{[]inst.Inst{{Code: 0xffff}, end}, api.ErrCode},
		{[]inst.Inst{{Code: load + x}, end}, api.ErrCode},
		{[]inst.Inst{{Code: load, K: 3}, end}, api.ErrLoad},
		{[]inst.Inst{{Code: load, K: 64}, end}, api.ErrLoad},
		{[]inst.Inst{{Code: storeX, K: 16}, end}, api.ErrMem},
		{[]inst.Inst{{Code: div}, end}, api.ErrZero},
		{[]inst.Inst{{Code: rsh, K: 32}, end}, api.ErrShift},
		{[]inst.Inst{{Code: ja, K: 1}, end}, api.ErrJump},
		{[]inst.Inst{{Code: jset, Jf: 1}, end}, api.ErrJump},
		{[]inst.Inst{end, {Code: toX}}, api.ErrRet},
		{[]inst.Inst{{Code: cell, K: 3}, end}, api.ErrInit},
		{[]inst.Inst{{Code: div}, {Code: load, K: 3}}, api.ErrZero},
	} {
		if m, e := vm.New(c.l); m != nil || e != c.e {
			t.Errorf("New: %v, %d; not error %d", m, e, c.e)
		}
		for _, b := range [][]byte{mixed(1), nil, make([]byte, 63), make([]byte, 65)} {
			o, e := vm.Run(c.l, b)
			fails(t, o, e, c.e)
		}
	}
}

// P6.1: of each number of bytes but 64 an error; 64 bytes in a greater room are 64.
func TestLengths(t *testing.T) {
	l := []inst.Inst{{Code: load, K: 60}, {Code: retA}}
	m, _ := vm.New(l)
	lengths := []int{1 << 10, 1 << 16, 1<<16 + 64, 1 << 20}
	for n := range 200 {
		lengths = append(lengths, n)
	}
	for _, n := range lengths {
		want := api.ErrShort
		switch {
		case n == 64:
			continue
		case n > 64:
			want = api.ErrLong
		}
		o, e := m.Run(make([]byte, n))
		fails(t, o, e, want)
		o, e = vm.Run(l, make([]byte, n))
		fails(t, o, e, want)
	}
	o, e := m.Run(nil)
	fails(t, o, e, api.ErrShort)
	whole := bytes.Repeat([]byte{1}, 80)
	o, e = m.Run(whole[:63])
	fails(t, o, e, api.ErrShort)
	runs(t, l, whole[:64], 0x01010101, 2, 60)
}

// P6.1: no machine runs nothing; the errors that are named first count (R2). One that New did not make does not run either.
func TestNoMachine(t *testing.T) {
	var none *vm.Machine
	for _, m := range []*vm.Machine{none, {}} {
		for n := range 130 {
			want := api.ErrState
			if n < 64 {
				want = api.ErrShort
			} else if n > 64 {
				want = api.ErrLong
			}
			o, e := m.Run(make([]byte, n))
			fails(t, o, e, want)
		}
	}
}

// P6.1: a run of just one instruction; at the beginning A is 0.
func TestOneInstruction(t *testing.T) {
	for _, k := range edges {
		runs(t, []inst.Inst{{Code: retK, K: k}}, mixed(k), k, 1)
		runs(t, []inst.Inst{{Code: retK, Jt: 255, Jf: 255, K: k}}, mixed(k), k, 1)
		runs(t, []inst.Inst{{Code: retA, K: k}}, mixed(k), 0, 1)
	}
}

// P6.1: at the beginning A and X are 0, whatever the run ahead left in them.
func TestBeginning(t *testing.T) {
	b := bytes.Repeat([]byte{0xff}, 64)
	runs(t, []inst.Inst{{Code: toA}, {Code: retA}}, b, 0, 2)
	runs(t, []inst.Inst{{Code: add, K: 5}, {Code: add + x}, {Code: immX, K: 9}, {Code: retA}}, b, 5, 4)
	runs(t, []inst.Inst{{Code: store, K: 1}, {Code: storeX, K: 2}, {Code: imm, K: 4}, {Code: cell, K: 1}, {Code: cellX, K: 2}, {Code: add + x}, {Code: lengthX}, {Code: retA}}, b, 0, 8)
	runs(t, []inst.Inst{{Code: jeq, Jt: 0, Jf: 1}, {Code: jeq + x, K: 1, Jt: 1, Jf: 0}, {Code: retK, K: 1}, {Code: immX, K: 3}, {Code: imm, K: 3}, {Code: retK, K: 2}}, b, 2, 5)
}

// P6.1: each word of a record, the lowest byte first; its places in order, as often as they are loaded.
func TestLoads(t *testing.T) {
	b := mixed(3)
	var l []inst.Inst
	var loads []int
	for k := 0; k < 64; k += 4 {
		want := uint32(b[k]) | uint32(b[k+1])<<8 | uint32(b[k+2])<<16 | uint32(b[k+3])<<24
		runs(t, []inst.Inst{{Code: imm, K: 1}, {Code: load, K: uint32(k)}, {Code: retA}}, b, want, 3, k)
		l = append(l, inst.Inst{Code: load, K: uint32(60 - k)}, inst.Inst{Code: load, K: uint32(60 - k)}, inst.Inst{Code: load, K: 8})
		loads = append(loads, 60-k, 60-k, 8)
	}
	runs(t, append(l, inst.Inst{Code: retK, K: 1}), b, 1, len(l)+1, loads...)
	runs(t, []inst.Inst{{Code: ja, K: 1}, {Code: load, K: 4}, {Code: load, K: 16}, {Code: retK}, {Code: load}, {Code: retA}}, b, 0, 3, 16)
	runs(t, []inst.Inst{{Code: load, K: 4}, {Code: immX}, {Code: div + x}, {Code: load, K: 8}, {Code: retA}}, b, 0, 3, 4)
}

// P6.1: k and the length into A and into X, and from the one to the other; a load leaves the other one as it is.
func TestMoves(t *testing.T) {
	b := mixed(4)
	end := inst.Inst{Code: retA}
	runs(t, []inst.Inst{{Code: imm, K: 3}, {Code: length, K: 7}, end}, b, 64, 3)
	runs(t, []inst.Inst{{Code: lengthX, K: 7}, end}, b, 0, 2)
	runs(t, []inst.Inst{{Code: lengthX, K: 7}, {Code: toA}, end}, b, 64, 3)
	for _, k := range edges {
		runs(t, []inst.Inst{{Code: imm, K: k}, end}, b, k, 2)
		runs(t, []inst.Inst{{Code: immX, K: k}, end}, b, 0, 2)
		runs(t, []inst.Inst{{Code: immX, K: k}, {Code: toA}, end}, b, k, 3)
		runs(t, []inst.Inst{{Code: imm, K: k}, {Code: toX}, {Code: imm, K: ^k}, {Code: toA}, end}, b, k, 5)
		runs(t, []inst.Inst{{Code: imm, K: k}, {Code: toX, K: 9}, end}, b, k, 3)
		runs(t, []inst.Inst{{Code: immX, K: k}, {Code: toA, K: 9}, {Code: imm, K: 6}, {Code: toA}, end}, b, k, 5)
		runs(t, []inst.Inst{{Code: imm, K: k}, {Code: immX, K: ^k}, end}, b, k, 3)
		runs(t, []inst.Inst{{Code: immX, K: k}, {Code: length}, {Code: load}, {Code: toA}, end}, b, k, 5, 0)
	}
}

// P6.1: each of the cells, by A and by X, holds what was stored last, and is none of the others.
func TestCells(t *testing.T) {
	var l []inst.Inst
	for k := range uint32(api.Cells) {
		l = append(l, inst.Inst{Code: imm, K: 1000 + k}, inst.Inst{Code: store, K: k})
	}
	for k := range uint32(api.Cells) {
		for _, get := range [][]inst.Inst{{{Code: cell, K: k}, {Code: retA}}, {{Code: cellX, K: k}, {Code: toA}, {Code: retA}}} {
			all := slices.Concat(l, get)
			runs(t, all, mixed(5), 1000+k, len(all))
			for other := range uint32(api.Cells) {
				want := 1000 + k
				if other == k {
					want = 77
				}
				all := slices.Concat(l, []inst.Inst{{Code: immX, K: 77}, {Code: storeX, K: other}, {Code: imm, K: 5}, {Code: immX, K: 6}}, get)
				runs(t, all, mixed(5), want, len(all))
			}
		}
		runs(t, []inst.Inst{{Code: imm, K: 8}, {Code: immX, K: 9}, {Code: store, K: k}, {Code: retA}}, mixed(5), 8, 4)
		runs(t, []inst.Inst{{Code: imm, K: 8}, {Code: immX, K: 9}, {Code: storeX, K: k}, {Code: cell, K: k}, {Code: add + x}, {Code: retA}}, mixed(5), 18, 6)
		runs(t, []inst.Inst{{Code: imm, K: 8}, {Code: store, K: k}, {Code: imm, K: 7}, {Code: cellX, K: k}, {Code: sub + x}, {Code: retA}}, mixed(5), math.MaxUint32, 6)
	}
}

// reckoned tells what is put together of two numbers, in 64 bits, and cut off.
func reckoned(code uint16, a, b uint32) uint32 {
	m, n := uint64(a), uint64(b)
	switch code {
	case add:
		m += n
	case sub:
		m += 1<<32 - n
	case mul:
		m *= n
	case div:
		m /= n
	case or:
		m = m + n - m&n
	case and:
		m = m - m&^n
	case xor:
		m = m&^n + n&^m
	case lsh:
		m *= 1 << (n % 32)
	case rsh:
		m /= 1 << (n % 32)
	}
	return uint32(m)
}

// P6.1, R6: what is reckoned goes round, with k as with X; a division by X that is 0 ends the run with 0; shifts by the rest by 32.
func TestReckoning(t *testing.T) {
	b, end := mixed(6), inst.Inst{Code: retA}
	for _, code := range []uint16{add, sub, mul, div, or, and, lsh, rsh, xor} {
		for _, m := range edges {
			for _, n := range edges {
				byX := []inst.Inst{{Code: imm, K: m}, {Code: immX, K: n}, {Code: code + x, K: 13}, end}
				byK := []inst.Inst{{Code: imm, K: m}, {Code: immX, K: 13}, {Code: code, K: n}, end}
				if code == div && n == 0 {
					runs(t, byX, b, 0, 3)
					continue
				}
				want := reckoned(code, m, n)
				runs(t, byX, b, want, 4)
				if n > 31 && (code == lsh || code == rsh) { // such a k may not be
					continue
				}
				runs(t, byK, b, want, 4)
				byX[3], byK[3] = inst.Inst{Code: toA}, inst.Inst{Code: toA}
				runs(t, append(byX, end), b, n, 5) // X stays as it is
				runs(t, append(byK, end), b, 13, 5)
			}
		}
	}
	for _, m := range edges {
		runs(t, []inst.Inst{{Code: imm, K: m}, {Code: immX, K: 4}, {Code: neg, K: 9}, end}, b, uint32(1<<32-uint64(m)), 4)
		runs(t, []inst.Inst{{Code: imm, K: m}, {Code: neg}, {Code: neg}, end}, b, m, 4)
	}
}

// P6.1: shifts, told by hand: by 31, 32 and more.
func TestShifts(t *testing.T) {
	for _, c := range []struct{ m, n, left, right uint32 }{
		{0x80000001, 0, 0x80000001, 0x80000001}, {0x80000001, 1, 2, 0x40000000}, {0x80000001, 31, 0x80000000, 1},
		{0x80000001, 32, 0x80000001, 0x80000001}, {0x80000001, 33, 2, 0x40000000}, {0x80000001, 63, 0x80000000, 1}, {0x80000001, 64, 0x80000001, 0x80000001},
		{0x80000001, 1 << 31, 0x80000001, 0x80000001}, {0x80000001, math.MaxUint32, 0x80000000, 1},
	} {
		runs(t, []inst.Inst{{Code: imm, K: c.m}, {Code: immX, K: c.n}, {Code: lsh + x}, {Code: retA}}, mixed(7), c.left, 4)
		runs(t, []inst.Inst{{Code: imm, K: c.m}, {Code: immX, K: c.n}, {Code: rsh + x}, {Code: retA}}, mixed(7), c.right, 4)
	}
}

// holds tells what a branch asks, one bit after the other.
func holds(code uint16, m, n uint32) bool {
	order, common := 0, false
	for bit := 31; bit >= 0; bit-- {
		p, q := m>>bit&1, n>>bit&1
		if order == 0 {
			order = int(p) - int(q)
		}
		common = common || p+q == 2
	}
	return code == jeq && order == 0 || code == jgt && order > 0 || code == jge && order >= 0 || code == jset && common
}

// P6.1, R6: comparisons of numbers that are equal, one apart, or with a highest bit, without a sign; both jumps, with k as with X.
func TestBranches(t *testing.T) {
	b := mixed(8)
	ends := []inst.Inst{{Code: retK, K: 10}, {Code: retK, K: 11}, {Code: retK, K: 12}, {Code: retK, K: 13}}
	for _, code := range branches {
		for _, m := range edges {
			for _, n := range []uint32{0, 1, 1 << 31, math.MaxUint32, m - 1, m, m + 1, ^m, m &^ 1, m ^ 1<<31} {
				byX := inst.Inst{Code: code + x, K: ^n}
				byK := inst.Inst{Code: code, K: n}
				for _, jumps := range [][2]uint8{{0, 1}, {1, 0}, {3, 2}, {2, 2}} {
					byX.Jt, byX.Jf = jumps[0], jumps[1]
					byK.Jt, byK.Jf = jumps[0], jumps[1]
					far := jumps[1]
					if holds(code, m, n) {
						far = jumps[0]
					}
					runs(t, append([]inst.Inst{{Code: imm, K: m}, {Code: immX, K: n}, byX}, ends...), b, 10+uint32(far), 4)
					runs(t, append([]inst.Inst{{Code: imm, K: m}, {Code: immX, K: ^n}, byK}, ends...), b, 10+uint32(far), 4)
				}
			}
		}
	}
	for _, c := range []struct {
		code uint16
		m, n uint32
		is   bool
	}{
		{jeq, 5, 5, true}, {jeq, 5, 6, false}, {jgt, 5, 5, false}, {jgt, 6, 5, true}, {jgt, 1 << 31, 1, true}, {jgt, 1, math.MaxUint32, false},
		{jge, 5, 5, true}, {jge, 4, 5, false}, {jge, math.MaxUint32, 0, true}, {jset, 6, 1, false}, {jset, 6, 4, true}, {jset, 0, 0, false}, {jset, 1 << 31, 1 << 31, true},
	} {
		if holds(c.code, c.m, c.n) != c.is {
			t.Fatalf("the test's own answer of %v", c)
		}
	}
}

// P6.1: a branch leaves A and X as they are.
func TestBranchesKeep(t *testing.T) {
	for _, code := range branches {
		runs(t, []inst.Inst{{Code: imm, K: 9}, {Code: immX, K: 4}, {Code: code, K: 9}, {Code: code + x}, {Code: lsh + x}, {Code: retA}}, mixed(9), 144, 6)
	}
}

// P6.1: plain jumps, by k alone: to the next one, over some, and as far as may be.
func TestJumps(t *testing.T) {
	for _, many := range []int{2, 3, 10, 300, api.MaxInst} {
		for _, far := range []int{0, 1, many / 2, many - 3, many - 2} {
			if far < 0 || far > many-2 {
				continue
			}
			l := fill(many)
			l[0] = inst.Inst{Code: ja, Jt: 1, Jf: 2, K: uint32(far)}
			runs(t, l, mixed(10), uint32(many-2-far), many-far)
		}
	}
	for _, far := range []uint8{0, 1, 127, 128, 254, 255} {
		l := fill(300)
		l[0] = inst.Inst{Code: jeq, Jt: far}
		runs(t, l, mixed(10), uint32(298-int(far)), 300-int(far))
		l[0] = inst.Inst{Code: jgt, Jf: far}
		runs(t, l, mixed(10), uint32(298-int(far)), 300-int(far))
	}
}

// P6.2, R1: a run of as many instructions as there may be has as many steps, and ends.
func TestLongest(t *testing.T) {
	runs(t, fill(api.MaxInst-1), mixed(11), api.MaxInst-2, api.MaxInst-1)
	runs(t, fill(api.MaxInst), mixed(11), api.MaxInst-1, api.MaxInst)
	l := slices.Repeat([]inst.Inst{{Code: load, K: 12}}, api.MaxInst-1)
	runs(t, append(l, inst.Inst{Code: retK, K: 3}), mixed(11), 3, api.MaxInst, slices.Repeat([]int{12}, api.MaxInst-1)...)
	for at := range l {
		l[at] = inst.Inst{Code: jeq + x, K: 9}
	}
	runs(t, append(l, inst.Inst{Code: retK, K: 4}), mixed(11), 4, api.MaxInst)
}

// chance tells numbers that look like chance, always the same ones.
type chance uint32

func (c *chance) below(n int) int {
	*c = *c*1664525 + 1013904223
	return int(uint32(*c)>>8) % n
}

func (c *chance) number() uint32 {
	if c.below(3) == 0 {
		return edges[c.below(len(edges))]
	}
	return uint32(c.below(1<<16))<<16 | uint32(c.below(1<<16))
}

// program tells one that often may run: some words, some cells, and whatever comes.
func program(c *chance, codes []uint16) []inst.Inst {
	l := []inst.Inst{{Code: load, K: uint32(4 * c.below(16))}, {Code: store, K: 1}, {Code: storeX, K: 2}, {Code: toX}}
	for range 1 + c.below(20) {
		l = append(l, inst.Inst{Code: codes[c.below(len(codes))], K: c.number()})
	}
	for at := range l[4:] {
		i, behind := &l[4+at], len(l)-4-at
		switch {
		case is(*i, load):
			i.K = uint32(4 * c.below(16))
		case is(*i, cell, cellX, store, storeX):
			i.K = uint32(1 + c.below(3))
		case is(*i, lsh, rsh):
			i.K %= 32
		case is(*i, ja):
			i.K = uint32(c.below(behind))
		case is(*i, jeq, jgt, jge, jset, jeq+x, jgt+x, jge+x, jset+x):
			i.Jt, i.Jf = uint8(c.below(behind)), uint8(c.below(behind))
		case is(*i, immX) && c.below(4) == 0:
			i.K = 0
		}
	}
	return append(l, inst.Inst{Code: retA})
}

// plain tells what a run does, by the document's table, and counts the codes that it met.
func plain(l []inst.Inst, b []byte, met map[uint16]int) vm.Out {
	var o vm.Out
	a, ex, cells := uint32(0), uint32(0), map[uint32]uint32{}
	for at := 0; ; at++ {
		i := l[at]
		o.Steps++
		met[i.Code]++
		side := i.K
		if i.Code&x != 0 {
			side = ex
		}
		switch base := i.Code &^ x; base {
		case load:
			o.Loads = append(o.Loads, int(i.K))
			a = 0
			for n := range 4 {
				a += uint32(b[int(i.K)+n]) << (8 * n)
			}
		case imm:
			a = i.K
		case immX:
			ex = i.K
		case cell:
			a = cells[i.K]
		case cellX:
			ex = cells[i.K]
		case length:
			a = 64
		case lengthX:
			ex = 64
		case store:
			cells[i.K] = a
		case storeX:
			cells[i.K] = ex
		case toX:
			ex = a
		case toA:
			a = ex
		case neg:
			a = ^a + 1
		case ja:
			at += int(i.K)
		case retK:
			o.Value = i.K
			return o
		case retA:
			o.Value = a
			return o
		case jeq, jgt, jge, jset:
			if holds(base, a, side) {
				at += int(i.Jt)
			} else {
				at += int(i.Jf)
			}
		default:
			if base == div && side == 0 {
				return o
			}
			a = reckoned(base, a, side)
		}
	}
}

func known() []uint16 {
	var l []uint16
	for code := range 1 << 16 {
		if _, _, ok := inst.Of(uint16(code)); ok {
			l = append(l, uint16(code))
		}
	}
	return l
}

// P6.1, P6.2: of many programs and records what the document's table tells; within as many steps as there are instructions; the same again; and what is not loaded does not count.
func TestManyPrograms(t *testing.T) {
	codes, c, met, ran := known(), chance(1), map[uint16]int{}, 0
	for range 10000 {
		l := program(&c, codes)
		m, e := vm.New(l)
		if _, want := check.Check(l); e != want || (m == nil) != (e != api.OK) {
			t.Fatalf("New of %v: %d, not %d", l, e, want)
		}
		if e != api.OK {
			continue
		}
		ran++
		for n := range uint32(3) {
			b := mixed(uint32(ran) + n)
			want := plain(l, b, met)
			o, e := m.Run(b)
			if !same(o, want) || e != api.OK {
				t.Fatalf("run of %v over %x: %v, %d; not %v", l, b, o, e, want)
			}
			if o.Steps < 1 || o.Steps > len(l) || slices.ContainsFunc(o.Loads, func(k int) bool { return k < 0 || k > 60 || k%4 != 0 }) {
				t.Fatalf("run of %v over %x: %v", l, b, o)
			}
			other := mixed(^uint32(ran))
			for _, k := range o.Loads {
				copy(other[k:k+4], b[k:])
			}
			if again, _ := m.Run(other); !same(again, o) {
				t.Fatalf("run of %v over %x: %v; over %x: %v", l, b, o, other, again)
			}
			if again, _ := vm.Run(l, b); !same(again, o) {
				t.Fatalf("Run of %v over %x: %v, not %v", l, b, again, o)
			}
		}
	}
	for _, code := range codes {
		if met[code] < 100 {
			t.Errorf("code %#x was met %d times only", code, met[code])
		}
	}
	if ran < 2500 {
		t.Errorf("%d programs ran only", ran)
	}
}

// R4: neither the program nor the bytes, nor the room behind them, are changed or kept; what is handed out is new. P6.2, R5: a machine that ran tells the same again, whatever it ran over meanwhile.
func TestHandedIn(t *testing.T) {
	whole := append(program(new(chance), []uint16{load, store, add, xor + x}), inst.Inst{K: 1}, inst.Inst{K: 2})
	l, was := whole[:len(whole)-2], slices.Clone(whole)
	room := append(mixed(12), mixed(13)...)
	b, held := room[:64], slices.Clone(room)
	m, e := vm.New(l)
	if e != api.OK {
		t.Fatal(e)
	}
	first, _ := m.Run(b)
	vm.Run(l, b)
	if !slices.Equal(whole, was) || !bytes.Equal(room, held) {
		t.Error("what was handed in is changed")
	}
	kept := vm.Out{Value: first.Value, Steps: first.Steps, Loads: slices.Clone(first.Loads)}
	clear(l)
	if o, _ := m.Run(b); !same(o, kept) {
		t.Errorf("of a program that was changed behind New: %v, not %v", o, kept)
	}
	m.Run(mixed(14))
	m.Run(nil)
	if !same(first, kept) {
		t.Errorf("what was handed out became %v", first)
	}
	for at := range first.Loads {
		first.Loads[at] = -1
	}
	_ = append(first.Loads, -1)
	if o, _ := m.Run(b); !same(o, kept) {
		t.Errorf("run again: %v, not %v", o, kept)
	}
	clear(b)
	if o, _ := m.Run(held[:64]); !same(o, kept) {
		t.Errorf("of bytes that were changed behind a run: %v, not %v", o, kept)
	}
}

// R5: machines of one program do not know of each other.
func TestTwoMachines(t *testing.T) {
	l := []inst.Inst{{Code: load, K: 16}, {Code: store, K: 4}, {Code: load, K: 20}, {Code: cellX, K: 4}, {Code: xor + x}, {Code: retA}}
	one, _ := vm.New(l)
	two, _ := vm.New(l)
	for n := range uint32(10) {
		p, q := mixed(n), mixed(n+100)
		for _, c := range []struct {
			m *vm.Machine
			b []byte
		}{{one, p}, {two, q}, {one, q}, {two, p}} {
			if o, e := c.m.Run(c.b); e != api.OK || !same(o, plain(l, c.b, map[uint16]int{})) {
				t.Errorf("%v, %d", o, e)
			}
		}
	}
}
