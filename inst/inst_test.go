package inst_test

import (
	"bytes"
	"slices"
	"testing"

	"strainer/api"
	"strainer/inst"
)

// The kinds in the document's order, beside their codes in its table.
var plain = []struct {
	kind inst.Kind
	code uint16
}{
	{inst.Load, 0x20}, {inst.Imm, 0x00}, {inst.Cell, 0x60}, {inst.Len, 0x80}, {inst.ImmX, 0x01}, {inst.CellX, 0x61}, {inst.LenX, 0x81},
	{inst.Store, 0x02}, {inst.StoreX, 0x03}, {inst.ToX, 0x07}, {inst.ToA, 0x87}, {inst.Neg, 0x84}, {inst.Jump, 0x05}, {inst.RetK, 0x06}, {inst.RetA, 0x16},
}

var sided = []struct {
	kind inst.Kind
	code uint16
}{
	{inst.Add, 0x04}, {inst.Sub, 0x14}, {inst.Mul, 0x24}, {inst.Div, 0x34}, {inst.Or, 0x44}, {inst.And, 0x54}, {inst.Lsh, 0x64}, {inst.Rsh, 0x74}, {inst.Xor, 0xa4},
	{inst.Equal, 0x15}, {inst.Greater, 0x25}, {inst.Least, 0x35}, {inst.Common, 0x45},
}

// P2.1, section 'Functions': the kinds are numbered from 1 on.
func TestKinds(t *testing.T) {
	next := inst.Kind(1)
	for _, c := range plain {
		if c.kind != next {
			t.Errorf("the kind of code %#x has the number %d, not %d", c.code, c.kind, next)
		}
		next++
	}
	for _, c := range sided {
		if c.kind != next {
			t.Errorf("the kind of code %#x has the number %d, not %d", c.code, c.kind, next)
		}
		next++
	}
}

// P2.1: of every code there may be: those of the table, with and without X, and all others.
func TestOf(t *testing.T) {
	type meaning struct {
		kind inst.Kind
		x    bool
	}
	table := map[uint16]meaning{}
	for _, c := range plain {
		table[c.code] = meaning{c.kind, false}
	}
	for _, c := range sided {
		table[c.code] = meaning{c.kind, false}
		table[c.code+8] = meaning{c.kind, true}
	}
	if len(table) != 41 {
		t.Fatalf("%d codes in the test's table", len(table))
	}
	for code := range 1 << 16 {
		want, some := table[uint16(code)]
		if kind, x, ok := inst.Of(uint16(code)); kind != want.kind || x != want.x || ok != some {
			t.Errorf("Of %#x: %d, %t, %t; not %d, %t, %t", code, kind, x, ok, want.kind, want.x, some)
		}
	}
}

// P2.1: codes that are none: a plain one with 8 more, one beside a code, one that is a code in its lower byte alone.
func TestOfNone(t *testing.T) {
	for _, code := range []uint16{0x28, 0x08, 0x68, 0x88, 0x09, 0x0a, 0x0b, 0x0d, 0x0e, 0x0f, 0x1e, 0x8c, 0x8f, 0x30, 0x40, 0x94, 0x9c, 0xb4, 0x55, 0xff, 0x0104, 0x0120, 0x8000, 0xfff8, 0xffff} {
		if kind, x, ok := inst.Of(code); kind != 0 || x || ok {
			t.Errorf("Of %#x: %d, %t, %t", code, kind, x, ok)
		}
	}
	if kind, x, ok := inst.Of(0x1d); kind != inst.Equal || !x || !ok {
		t.Error("Of 0x1d")
	}
}

// P2.1: the code in two bytes, the jumps in one each, k in four, the lowest one first.
func TestWrite(t *testing.T) {
	for _, c := range []struct {
		l    []inst.Inst
		want []byte
	}{
		{nil, nil},
		{[]inst.Inst{}, nil},
		{[]inst.Inst{{}}, make([]byte, 8)},
		{[]inst.Inst{{Code: 0x15, Jt: 1, Jf: 2, K: 3}}, []byte{0x15, 0, 1, 2, 3, 0, 0, 0}},
		{[]inst.Inst{{Code: 0x1234, Jt: 0x56, Jf: 0x78, K: 0x9abcdef0}}, []byte{0x34, 0x12, 0x56, 0x78, 0xf0, 0xde, 0xbc, 0x9a}},
		{[]inst.Inst{{Code: 0xffff}, {Jt: 0xff}, {Jf: 0xff}, {K: 0xffffffff}}, []byte{
			0xff, 0xff, 0, 0, 0, 0, 0, 0,
			0, 0, 0xff, 0, 0, 0, 0, 0,
			0, 0, 0, 0xff, 0, 0, 0, 0,
			0, 0, 0, 0, 0xff, 0xff, 0xff, 0xff}},
	} {
		if b := inst.Write(c.l); !bytes.Equal(b, c.want) {
			t.Errorf("Write of %v: %x, not %x", c.l, b, c.want)
		}
	}
	if n := len(inst.Write(make([]inst.Inst, api.MaxInst+1))); n != 8*(api.MaxInst+1) {
		t.Errorf("Write of more than a program may have: %d bytes", n)
	}
}

func TestRead(t *testing.T) {
	l, e := inst.Read([]byte{0x34, 0x12, 0x56, 0x78, 0xf0, 0xde, 0xbc, 0x9a, 6, 0, 0, 0, 0, 0, 0xff, 0x7f})
	want := []inst.Inst{{Code: 0x1234, Jt: 0x56, Jf: 0x78, K: 0x9abcdef0}, {Code: 6, K: 0x7fff0000}}
	if !slices.Equal(l, want) || e != api.OK {
		t.Errorf("Read: %v, %d", l, e)
	}
}

// P2.1: 0 bytes, numbers of bytes with and without a rest by 8, and about the greatest one.
func TestReadLengths(t *testing.T) {
	most := 8 * api.MaxInst
	lengths := []int{most - 9, most - 8, most - 7, most - 1, most, most + 1, most + 7, most + 8, most + 9, 2 * most, 1 << 20}
	for n := range 130 {
		lengths = append(lengths, n)
	}
	for _, n := range lengths {
		want, many := api.OK, n/8
		if n > most {
			want, many = api.ErrLong, 0
		} else if n%8 != 0 {
			want, many = api.ErrShort, 0
		}
		if l, e := inst.Read(make([]byte, n)); len(l) != many || e != want {
			t.Errorf("Read of %d bytes: %d instructions, %d; not %d, %d", n, len(l), e, many, want)
		}
	}
	if l, e := inst.Read(nil); len(l) != 0 || e != api.OK {
		t.Errorf("Read of no bytes: %v, %d", l, e)
	}
}

// mixed tells bytes that all differ from their neighbours.
func mixed(n int) []byte {
	b := make([]byte, n)
	x := uint32(1)
	for i := range b {
		x = x*1664525 + 1013904223
		b[i] = byte(x >> 24)
	}
	return b
}

// P2.2: there and back, from bytes and from instructions, up to as many as there may be.
func TestThereAndBack(t *testing.T) {
	for _, many := range []int{0, 1, 2, 3, 255, 256, 257, api.MaxInst - 1, api.MaxInst} {
		b := mixed(8 * many)
		l, e := inst.Read(b)
		if e != api.OK || len(l) != many || !bytes.Equal(inst.Write(l), b) {
			t.Errorf("%d instructions: what is read is not written as it was (%d)", many, e)
		}
	}
	l := []inst.Inst{}
	for _, n := range []uint32{0, 1, 0x7f, 0x80, 0xff, 0x100, 0x1ff, 0x8000, 0xffff, 0x10000, 0x80000000, 0xffffffff} {
		l = append(l, inst.Inst{Code: uint16(n), Jt: uint8(n), Jf: ^uint8(n), K: n}, inst.Inst{Code: ^uint16(n), Jt: uint8(n >> 8), K: ^n})
	}
	if x, e := inst.Read(inst.Write(l)); !slices.Equal(x, l) || e != api.OK {
		t.Errorf("what is written is not read as it was: %v, %d", x, e)
	}
}

// R4: what is handed in, and the room behind it, is neither changed nor kept; what is handed out is new.
func TestHandedIn(t *testing.T) {
	whole := mixed(8 * 6)
	l, _ := inst.Read(whole[8:32])
	list, was := append(l, inst.Inst{K: 9}), slices.Clone(l)
	b := inst.Write(list[:3])
	if !bytes.Equal(whole, mixed(8*6)) || !slices.Equal(list[:3], was) || list[3] != (inst.Inst{K: 9}) {
		t.Error("what was handed in is changed")
	}
	clear(whole)
	if !slices.Equal(l, was) {
		t.Error("Read keeps its bytes")
	}
	written := slices.Clone(b)
	clear(list)
	if !bytes.Equal(b, written) {
		t.Error("Write keeps its list")
	}
}
