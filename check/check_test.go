package check_test

import (
	"math"
	"slices"
	"testing"

	"strainer/api"
	"strainer/check"
	"strainer/inst"
)

// Codes of the tests' instructions: x more, if the other side is X; and one that is none.
const (
	load, imm, cell, length = 0x20, 0x00, 0x60, 0x80
	immX, cellX, lengthX    = 0x01, 0x61, 0x81
	store, storeX           = 0x02, 0x03
	toX, neg                = 0x07, 0x84
	ja, retK, retA          = 0x05, 0x06, 0x16
	add, sub, mul, div      = 0x04, 0x14, 0x24, 0x34
	or, and, lsh, rsh, xor  = 0x44, 0x54, 0x64, 0x74, 0xa4
	jeq, jgt, jge, jset     = 0x15, 0x25, 0x35, 0x45
	x                       = 8
	none                    = 0xffff
)

const allCells = 0xffff

var branches = []uint16{jeq, jgt, jge, jset, jeq + x, jgt + x, jge + x, jset + x}

// every has each code that there is, with numbers that are right everywhere.
func every() []inst.Inst {
	l := []inst.Inst{}
	for code := range 1 << 8 {
		if _, _, ok := inst.Of(uint16(code)); ok {
			l = append(l, inst.Inst{Code: uint16(code), K: 4})
		}
	}
	for at := range l {
		if l[at].Code == ja {
			l[at].K = 0
		}
	}
	return l
}

func is(i inst.Inst, codes ...uint16) bool { return slices.Contains(codes, i.Code) }

// fill tells so many instructions that are right, and a return.
func fill(many int) []inst.Inst {
	l := slices.Repeat([]inst.Inst{{Code: neg}}, many-1)
	return append(l, inst.Inst{Code: retA})
}

// finds holds Check to an answer, and Stored to an answer or none.
func finds(t *testing.T, l []inst.Inst, at int, e api.Errno) {
	t.Helper()
	if n, got := check.Check(l); n != at || got != e {
		t.Errorf("Check of %.300v: %d, %d; not %d, %d", text(l), n, got, at, e)
	}
	many := len(l)
	if e != api.OK && e != api.ErrInit {
		many = 0
	}
	if s := check.Stored(l); len(s) != many {
		t.Errorf("Stored of %.300v: %d numbers, not %d", text(l), len(s), many)
	}
}

func text(l []inst.Inst) []inst.Inst { return l[:min(len(l), 12)] }

// P4.1: the document's examples.
func TestExamples(t *testing.T) {
	finds(t, []inst.Inst{{Code: retA}}, 0, api.OK)
	finds(t, []inst.Inst{{Code: ja}}, 0, api.ErrJump)
	finds(t, []inst.Inst{{Code: neg}}, 0, api.ErrRet)
	finds(t, []inst.Inst{{Code: cell, K: 3}, {Code: retA}}, 0, api.ErrInit)
}

// P4.1, 1: none, just as many as there may be, and more; this ahead of all else.
func TestHowMany(t *testing.T) {
	finds(t, nil, 0, api.ErrEmpty)
	finds(t, []inst.Inst{}, 0, api.ErrEmpty)
	finds(t, fill(5)[:0], 0, api.ErrEmpty)
	for _, many := range []int{1, 2, 255, 256, 257, 4095, api.MaxInst} {
		finds(t, fill(many), 0, api.OK)
	}
	for _, many := range []int{api.MaxInst + 1, api.MaxInst + 2, 2 * api.MaxInst, 1 << 17} {
		finds(t, fill(many), 0, api.ErrLong)
		finds(t, make([]inst.Inst, many), 0, api.ErrLong)
		finds(t, slices.Repeat([]inst.Inst{{Code: none}}, many), 0, api.ErrLong)
	}
	finds(t, slices.Repeat([]inst.Inst{{Code: neg}}, api.MaxInst), api.MaxInst-1, api.ErrRet)
	finds(t, slices.Repeat([]inst.Inst{{Code: none}}, api.MaxInst), 0, api.ErrCode)
}

// around puts an instruction ahead, in the midst, and last but one; what it answers hangs on where it stands by the number alone.
func around(t *testing.T, i inst.Inst, e api.Errno) {
	t.Helper()
	for at := range 4 {
		l := fill(5)
		l[at] = i
		n := at
		if e == api.OK {
			n = 0
		}
		finds(t, l, n, e)
	}
}

// P4.1, 2: each code that there is, and those that are none.
func TestCodes(t *testing.T) {
	for code := range 1 << 16 {
		i := inst.Inst{Code: uint16(code), K: 4}
		_, _, ok := inst.Of(i.Code)
		l := []inst.Inst{i, {Code: neg}, {Code: neg}, {Code: neg}, {Code: neg}, {Code: retA}}
		at, e := check.Check(l)
		switch {
		case !ok && (at != 0 || e != api.ErrCode):
			t.Errorf("Check of the code %#x: %d, %d", code, at, e)
		case ok && e != api.OK && !(e == api.ErrInit && is(i, cell, cellX)) && !(e == api.ErrJump && is(i, ja)):
			t.Errorf("Check of the code %#x: %d, %d", code, at, e)
		}
	}
	around(t, inst.Inst{Code: load + x}, api.ErrCode)
	around(t, inst.Inst{Code: 0x100 + neg}, api.ErrCode)
	around(t, inst.Inst{Code: none, Jt: 255, Jf: 255, K: math.MaxUint32}, api.ErrCode)
	finds(t, []inst.Inst{{Code: retA}, {Code: none}}, 1, api.ErrCode)
}

// P4.1, 2: words at multiples of 4 below 64.
func TestWords(t *testing.T) {
	for k := range uint32(200) {
		e := api.ErrLoad
		if k%4 == 0 && k < 64 {
			e = api.OK
		}
		around(t, inst.Inst{Code: load, K: k}, e)
	}
	for _, k := range []uint32{1 << 16, 1<<16 + 4, 1 << 31, 1<<31 + 60, math.MaxUint32 - 3, math.MaxUint32} {
		around(t, inst.Inst{Code: load, K: k}, api.ErrLoad)
	}
	for _, code := range []uint16{imm, immX, length, lengthX} {
		around(t, inst.Inst{Code: code, K: 63}, api.OK)
		around(t, inst.Inst{Code: code, K: math.MaxUint32}, api.OK)
	}
}

// P4.1, 2: cells to 15, of each kind that speaks of one.
func TestCells(t *testing.T) {
	for k := range uint32(100) {
		for _, code := range []uint16{cell, cellX, store, storeX} {
			i := inst.Inst{Code: code, K: k}
			switch {
			case k >= 16:
				around(t, i, api.ErrMem)
			case is(i, cell, cellX):
				around(t, i, api.ErrInit)
				finds(t, []inst.Inst{{Code: store, K: k}, i, {Code: retA}}, 0, api.OK)
			default:
				around(t, i, api.OK)
			}
		}
	}
	for _, k := range []uint32{255, 256, 1 << 16, 1 << 31, 1<<31 + 3, math.MaxUint32 - 15, math.MaxUint32} {
		for _, code := range []uint16{cell, cellX, store, storeX} {
			around(t, inst.Inst{Code: code, K: k}, api.ErrMem)
		}
	}
}

// P4.1, 2: the number 0 divides nothing; X may; it is k alone that counts.
func TestDivisions(t *testing.T) {
	around(t, inst.Inst{Code: div}, api.ErrZero)
	around(t, inst.Inst{Code: div, Jt: 1, Jf: 1}, api.ErrZero)
	for _, k := range []uint32{1, 2, 255, 256, 1 << 16, 1 << 31, math.MaxUint32} {
		around(t, inst.Inst{Code: div, K: k}, api.OK)
	}
	for _, k := range []uint32{0, 1, math.MaxUint32} {
		around(t, inst.Inst{Code: div + x, K: k}, api.OK)
	}
	for _, code := range []uint16{add, sub, mul, or, and, xor, lsh, rsh, imm, immX} {
		around(t, inst.Inst{Code: code}, api.OK)
	}
}

// P4.1, 2: shifts by a number to 31; by X whatever k is.
func TestShifts(t *testing.T) {
	for _, code := range []uint16{lsh, rsh} {
		for k := range uint32(100) {
			e := api.ErrShift
			if k <= 31 {
				e = api.OK
			}
			around(t, inst.Inst{Code: code, K: k}, e)
			around(t, inst.Inst{Code: code + x, K: k}, api.OK)
		}
		for _, k := range []uint32{256, 1 << 16, 1 << 31, math.MaxUint32} {
			around(t, inst.Inst{Code: code, K: k}, api.ErrShift)
			around(t, inst.Inst{Code: code + x, K: k}, api.OK)
		}
	}
	for _, code := range []uint16{add, sub, mul, or, and, xor} {
		around(t, inst.Inst{Code: code, K: 32}, api.OK)
		around(t, inst.Inst{Code: code, K: math.MaxUint32}, api.OK)
	}
}

// P4.1, 2: a jump to the last instruction, and beyond it; of a branch both jumps count, of a jump k alone, of others nothing.
func TestJumps(t *testing.T) {
	for _, many := range []int{2, 3, 10, 257, 300, api.MaxInst} {
		for _, at := range []int{0, 1, many / 2, many - 2} {
			if at > many-2 {
				continue
			}
			l, most := fill(many), many-2-at
			set := func(i inst.Inst) []inst.Inst { l[at] = i; return l }
			for _, k := range []int{0, most / 2, most} {
				finds(t, set(inst.Inst{Code: ja, Jt: 255, Jf: 255, K: uint32(k)}), 0, api.OK)
			}
			for _, k := range []int{most + 1, most + 2, many, 1 << 31, 1<<32 - 1 - at, 1<<32 - at - 2, 1<<32 - 1} {
				finds(t, set(inst.Inst{Code: ja, K: uint32(k)}), at, api.ErrJump)
			}
			for _, code := range branches {
				right, wrong := uint8(min(most, 255)), uint8(min(most+1, 255))
				finds(t, set(inst.Inst{Code: code, Jt: right, Jf: 0, K: math.MaxUint32}), 0, api.OK)
				finds(t, set(inst.Inst{Code: code, Jt: 0, Jf: right}), 0, api.OK)
				finds(t, set(inst.Inst{Code: code, Jt: right, Jf: right}), 0, api.OK)
				if most >= 255 {
					continue
				}
				for _, far := range []uint8{wrong, 255} {
					finds(t, set(inst.Inst{Code: code, Jt: far, Jf: 0}), at, api.ErrJump)
					finds(t, set(inst.Inst{Code: code, Jt: 0, Jf: far}), at, api.ErrJump)
					finds(t, set(inst.Inst{Code: code, Jt: far, Jf: far}), at, api.ErrJump)
				}
			}
		}
	}
	for _, i := range every() {
		if i.Jt, i.Jf = 255, 255; !is(i, branches...) && !is(i, cell, cellX) {
			around(t, i, api.OK)
		}
	}
}

// P4.1, 2 and 3: a jump at the end leads behind it, and that counts ahead of its being no return.
func TestLast(t *testing.T) {
	for _, many := range []int{1, 2, 20} {
		for _, i := range every() {
			l := fill(many)
			l[many-1] = i
			switch {
			case is(i, retK, retA):
				finds(t, l, 0, api.OK)
			case is(i, ja) || is(i, branches...):
				finds(t, l, many-1, api.ErrJump)
			default: // a cell that nothing was stored in, too
				finds(t, l, many-1, api.ErrRet)
			}
		}
	}
	finds(t, []inst.Inst{{Code: retK}, {Code: retA}, {Code: toX}}, 2, api.ErrRet)
	finds(t, []inst.Inst{{Code: cell}, {Code: toX}}, 1, api.ErrRet)
}

// P4.1: what is first in the list is told: 1, then 2 by the instructions, then 3, then 4.
func TestFirstIsTold(t *testing.T) {
	wrong := []struct {
		i inst.Inst
		e api.Errno
	}{
		{inst.Inst{Code: none}, api.ErrCode}, {inst.Inst{Code: load, K: 2}, api.ErrLoad}, {inst.Inst{Code: store, K: 16}, api.ErrMem}, {inst.Inst{Code: cellX, K: 16}, api.ErrMem},
		{inst.Inst{Code: div}, api.ErrZero}, {inst.Inst{Code: rsh, K: 32}, api.ErrShift}, {inst.Inst{Code: ja, K: 9}, api.ErrJump}, {inst.Inst{Code: jset, Jf: 9}, api.ErrJump},
	}
	for _, a := range wrong {
		for _, b := range wrong {
			finds(t, []inst.Inst{{Code: cell}, {Code: retA}, a.i, {Code: neg}, b.i, {Code: neg}}, 2, a.e)
			finds(t, []inst.Inst{a.i, b.i}, 0, a.e)
		}
		finds(t, []inst.Inst{{Code: retA}, {Code: retA}, {Code: retA}, a.i}, 3, a.e)
	}
	finds(t, []inst.Inst{{Code: retA}, {Code: cell}, {Code: retA}, {Code: neg}}, 3, api.ErrRet)
	finds(t, []inst.Inst{{Code: cell}, {Code: cellX, K: 1}, {Code: retA}}, 0, api.ErrInit)
	finds(t, []inst.Inst{{Code: store}, {Code: cell}, {Code: cellX, K: 1}, {Code: cell, K: 2}, {Code: retA}}, 2, api.ErrInit)
}

// P4.1, 4: a cell may be loaded that was stored on every way, by A or X, ahead; not one that is stored on one way only, nor another one.
func TestOnEveryWay(t *testing.T) {
	for _, code := range branches {
		for k := range uint32(16) {
			for _, kind := range []uint16{cell, cellX} {
				get, put, putX := inst.Inst{Code: kind, K: k}, inst.Inst{Code: store, K: k}, inst.Inst{Code: storeX, K: k}
				other, end := inst.Inst{Code: store, K: (k + 1) % 16}, inst.Inst{Code: retA}
				over := func(jt, jf uint8) inst.Inst { return inst.Inst{Code: code, Jt: jt, Jf: jf} }
				skip := inst.Inst{Code: ja, K: 1}
				finds(t, []inst.Inst{put, get, end}, 0, api.OK)
				finds(t, []inst.Inst{putX, get, end}, 0, api.OK)
				finds(t, []inst.Inst{get, put, end}, 0, api.ErrInit)
				finds(t, []inst.Inst{other, get, end}, 1, api.ErrInit)
				finds(t, []inst.Inst{over(0, 1), put, get, end}, 2, api.ErrInit)
				finds(t, []inst.Inst{over(1, 0), putX, get, end}, 2, api.ErrInit)
				finds(t, []inst.Inst{over(0, 0), put, get, end}, 0, api.OK)
				finds(t, []inst.Inst{over(1, 1), put, get, end}, 2, api.ErrInit)
				finds(t, []inst.Inst{put, over(0, 1), putX, get, end}, 0, api.OK)
				finds(t, []inst.Inst{over(0, 2), put, skip, putX, get, end}, 0, api.OK)
				finds(t, []inst.Inst{over(0, 2), put, skip, other, get, end}, 4, api.ErrInit)
				finds(t, []inst.Inst{over(0, 2), other, skip, put, get, end}, 4, api.ErrInit)
				finds(t, []inst.Inst{over(0, 2), put, end, put, get, end}, 0, api.OK)
				finds(t, []inst.Inst{over(1, 0), end, put, get, end}, 0, api.OK)
				finds(t, []inst.Inst{skip, get, end}, 0, api.OK)
				finds(t, []inst.Inst{end, get, end}, 0, api.OK)
				finds(t, []inst.Inst{skip, put, get, end}, 2, api.ErrInit)
			}
		}
	}
}

// P4.1: which cells are stored at each instruction, ahead of what it does itself.
func TestStored(t *testing.T) {
	for _, c := range []struct {
		l    []inst.Inst
		want []uint16
	}{
		{[]inst.Inst{{Code: retA}}, []uint16{0}},
		{[]inst.Inst{{Code: store, K: 0}, {Code: storeX, K: 15}, {Code: store, K: 7}, {Code: retK}}, []uint16{0, 1, 0x8001, 0x8081}},
		{[]inst.Inst{{Code: retK}, {Code: store, K: 2}, {Code: retA}}, []uint16{0, 0xffff, 0xffff}},
		{[]inst.Inst{{Code: ja, K: 1}, {Code: store, K: 2}, {Code: neg}, {Code: retA}}, []uint16{0, 0xffff, 0, 0}},
		{[]inst.Inst{{Code: cell, K: 5}, {Code: cellX, K: 6}, {Code: retA}}, []uint16{0, 0, 0}},
		{[]inst.Inst{{Code: jeq, Jt: 0, Jf: 3}, {Code: store, K: 1}, {Code: store, K: 2}, {Code: ja, K: 2}, {Code: storeX, K: 2}, {Code: store, K: 3}, {Code: neg}, {Code: retA}}, []uint16{0, 0, 2, 6, 0, 4, 4, 4}},
		{[]inst.Inst{{Code: store, K: 4}, {Code: jgt + x, Jt: 1, Jf: 2}, {Code: neg}, {Code: store, K: 4}, {Code: retA}}, []uint16{0, 0x10, 0xffff, 0x10, 0x10}},
	} {
		if s := check.Stored(c.l); !slices.Equal(s, c.want) {
			t.Errorf("Stored of %v: %#x, not %#x", c.l, s, c.want)
		}
	}
}

// A way at a time: what the document says of ways, told once more.
type ways struct {
	l     []inst.Inst
	known []bool
	cells []uint16
}

func (w *ways) walk(at int, on uint16) {
	if !w.known[at] {
		w.known[at], w.cells[at] = true, allCells
	}
	w.cells[at] &= on
	switch i := w.l[at]; {
	case is(i, retK, retA):
	case is(i, ja):
		w.walk(at+1+int(i.K), on)
	case is(i, branches...):
		w.walk(at+1+int(i.Jt), on)
		w.walk(at+1+int(i.Jf), on)
	case is(i, store, storeX):
		w.walk(at+1, on|1<<i.K)
	default:
		w.walk(at+1, on)
	}
}

// plain tells by the document's list, one after the other.
func plain(l []inst.Inst) (cells []uint16, at int, e api.Errno) {
	if len(l) == 0 {
		return nil, 0, api.ErrEmpty
	}
	for at, i := range l {
		behind := uint32(len(l) - 1 - at)
		_, _, ok := inst.Of(i.Code)
		for _, c := range []struct {
			wrong bool
			e     api.Errno
		}{
			{!ok, api.ErrCode}, {is(i, load) && (i.K&3 != 0 || i.K > 60), api.ErrLoad}, {is(i, cell, cellX, store, storeX) && i.K > 15, api.ErrMem},
			{is(i, div) && i.K == 0, api.ErrZero}, {is(i, lsh, rsh) && i.K > 31, api.ErrShift},
			{is(i, ja) && i.K >= behind || is(i, branches...) && uint32(max(i.Jt, i.Jf)) >= behind, api.ErrJump},
		} {
			if c.wrong {
				return nil, at, c.e
			}
		}
	}
	if !is(l[len(l)-1], retK, retA) {
		return nil, len(l) - 1, api.ErrRet
	}
	w := ways{l, make([]bool, len(l)), slices.Repeat([]uint16{allCells}, len(l))}
	w.walk(0, 0)
	for at, i := range l {
		if is(i, cell, cellX) && w.cells[at]>>i.K&1 == 0 {
			return w.cells, at, api.ErrInit
		}
	}
	return w.cells, 0, api.OK
}

// chance tells numbers that look like chance, always the same ones.
type chance uint32

func (c *chance) below(n int) int {
	*c = *c*1664525 + 1013904223
	return int(uint32(*c)>>8) % n
}

// program tells one that is often right, sometimes wrong.
func program(c *chance) []inst.Inst {
	l := make([]inst.Inst, 1+c.below(12))
	for at := range l {
		behind := len(l) - at
		i := inst.Inst{K: uint32(c.below(3))}
		switch c.below(8) {
		case 0, 1:
			i.Code = []uint16{store, storeX}[c.below(2)]
		case 2:
			i.Code = []uint16{cell, cellX}[c.below(2)]
		case 3, 4:
			i.Code, i.Jt, i.Jf = branches[c.below(8)], uint8(c.below(max(1, behind-1))), uint8(c.below(max(1, behind-1)))
		case 5:
			i.Code, i.K = ja, uint32(c.below(max(1, behind-1)))
		case 6:
			i.Code = []uint16{retK, retA, toX, neg, add + x, imm}[c.below(6)]
		case 7:
			i.Code, i.K = []uint16{load, load, div, lsh, rsh, store, uint16(c.below(256))}[c.below(7)], uint32(4+c.below(20))
			if c.below(3) == 0 {
				i.K = []uint32{0, 2, 16, 32, 64}[c.below(5)]
			}
		}
		l[at] = i
	}
	if c.below(9) != 0 {
		l[len(l)-1].Code = retA
	}
	return l
}

// P4.1: of many programs the same as by the document's list, and by going each way.
func TestManyPrograms(t *testing.T) {
	c, met := chance(1), map[api.Errno]int{}
	for range 60000 {
		l := program(&c)
		cells, at, e := plain(l)
		n, got := check.Check(l)
		if s := check.Stored(l); n != at || got != e || !slices.Equal(s, cells) {
			t.Fatalf("Check and Stored of %v: %d, %d, %#x; not %d, %d, %#x", l, n, got, s, at, e, cells)
		}
		met[e]++
	}
	for _, e := range []api.Errno{api.OK, api.ErrCode, api.ErrLoad, api.ErrMem, api.ErrZero, api.ErrShift, api.ErrJump, api.ErrRet, api.ErrInit} {
		if met[e] < 100 {
			t.Errorf("error %d was met %d times only", e, met[e])
		}
	}
}

// P4.1, R1: a program of as many ways as there may be is told at once.
func TestManyWays(t *testing.T) {
	l := fill(api.MaxInst)
	l[0] = inst.Inst{Code: store, K: 9}
	for at := 1; at < len(l)-3; at += 2 {
		l[at], l[at+1] = inst.Inst{Code: jeq, Jt: 0, Jf: 1}, inst.Inst{Code: store, K: uint32(at/2) % 9}
	}
	l[len(l)-2] = inst.Inst{Code: cell, K: 9}
	finds(t, l, 0, api.OK)
	l[len(l)-2].K = 3
	finds(t, l, len(l)-2, api.ErrInit)
}

// P4.2: no k of a return counts, and none that is added, compared, or loaded.
func TestNoMatter(t *testing.T) {
	c := chance(2)
	for range 20000 {
		l := program(&c)
		at, e := check.Check(l)
		other := slices.Clone(l)
		for n := range other {
			if is(other[n], retK, retA, add, jeq, jgt, jge, jset, imm, immX) || is(other[n], branches...) {
				other[n].K = []uint32{0, 1, 64, 1 << 31, math.MaxUint32}[c.below(5)]
			}
		}
		if n, got := check.Check(other); n != at || got != e || !slices.Equal(check.Stored(l), check.Stored(other)) {
			t.Fatalf("Check of %v: %d, %d; of %v: %d, %d", l, at, e, other, n, got)
		}
	}
}

// P4.2: with an instruction more ahead of it that neither jumps nor is wrong, nor loads a cell, a program may run as it might.
func TestOneMoreAhead(t *testing.T) {
	c, ones := chance(3), every()
	for range 3000 {
		l := program(&c)
		if _, e := check.Check(l); e != api.OK {
			continue
		}
		for _, i := range ones {
			if i.Jt, i.Jf = 255, 255; is(i, ja, cell, cellX) || is(i, branches...) {
				continue
			}
			if at, e := check.Check(append([]inst.Inst{i}, l...)); at != 0 || e != api.OK {
				t.Fatalf("Check of %v ahead of %v: %d, %d", i, l, at, e)
			}
		}
	}
}

// R4: neither the list nor the room behind it is changed, nor kept; what is handed out is new. R5: asked again, the same.
func TestHandedIn(t *testing.T) {
	whole := append(fill(6), inst.Inst{Code: none}, inst.Inst{Code: retA})
	was, l := slices.Clone(whole), whole[:6]
	l[1] = inst.Inst{Code: store, K: 2}
	was[1] = l[1]
	s := check.Stored(l)
	finds(t, l, 0, api.OK)
	finds(t, l[:5], 4, api.ErrRet)
	if !slices.Equal(whole, was) {
		t.Error("what was handed in is changed")
	}
	want := slices.Clone(s)
	clear(s)
	_ = append(s, 1)
	if again := check.Stored(l); !slices.Equal(again, want) {
		t.Errorf("Stored, asked again: %v, not %v", again, want)
	}
}
