// Package inst is layer 2: see shared/doc/02-inst.md.
package inst

import (
	"strainer/api"
	"strainer/word"
)

// Inst is an instruction.
type Inst struct {
	Code   uint16
	Jt, Jf uint8
	K      uint32
}

// Kind is what one does.
type Kind int

// The kinds.
const (
	Load Kind = iota + 1
	Imm
	Cell
	Len
	ImmX
	CellX
	LenX
	Store
	StoreX
	ToX
	ToA
	Neg
	Jump
	RetK
	RetA
	Add
	Sub
	Mul
	Div
	Or
	And
	Lsh
	Rsh
	Xor
	Equal
	Greater
	Least
	Common
)

// Of tells what a code means.
func Of(code uint16) (kind Kind, x bool, ok bool) {
	known := codes()
	if kind, ok = known[code]; ok {
		return kind, false, true
	}
	// The kinds from Add on are those that have another side, which may be X.
	if kind = known[code-withX]; kind >= Add {
		return kind, true, true
	}
	return 0, false, false
}

// Write writes instructions.
func Write(l []Inst) []byte {
	b := make([]byte, 0, size*len(l))
	for _, i := range l {
		b = append(b, bytesOf(i)...)
	}
	return b
}

// Read reads them.
func Read(b []byte) ([]Inst, api.Errno) {
	if len(b) > size*api.MaxInst {
		return nil, api.ErrLong
	}
	if len(b)%size != 0 {
		return nil, api.ErrShort
	}
	l := make([]Inst, len(b)/size)
	for i := range l {
		l[i] = instAt(b, size*i)
	}
	return l, api.OK
}

// withX is how much more a code is, if its other side is X instead of k.
const withX = 8

// Where the parts of an instruction stand in its bytes, and how many these are.
const (
	codeAt = 0
	jtAt   = 2
	jfAt   = 3
	kAt    = 4
	size   = 8
)

// codes tells the kinds by their codes, those of the kinds that have another side with k.
func codes() map[uint16]Kind {
	return map[uint16]Kind{
		0x20: Load,
		0x00: Imm,
		0x60: Cell,
		0x80: Len,
		0x01: ImmX,
		0x61: CellX,
		0x81: LenX,
		0x02: Store,
		0x03: StoreX,
		0x07: ToX,
		0x87: ToA,
		0x84: Neg,
		0x05: Jump,
		0x06: RetK,
		0x16: RetA,
		0x04: Add,
		0x14: Sub,
		0x24: Mul,
		0x34: Div,
		0x44: Or,
		0x54: And,
		0x64: Lsh,
		0x74: Rsh,
		0xa4: Xor,
		0x15: Equal,
		0x25: Greater,
		0x35: Least,
		0x45: Common,
	}
}

// bytesOf tells an instruction's bytes.
func bytesOf(i Inst) []byte {
	b := make([]byte, size)
	b = put(b, codeAt, 2, uint64(i.Code))
	b = put(b, jtAt, 1, uint64(i.Jt))
	b = put(b, jfAt, 1, uint64(i.Jf))
	return put(b, kAt, 4, uint64(i.K))
}

// instAt tells the instruction whose bytes stand from a place on.
func instAt(b []byte, at int) Inst {
	return Inst{
		Code: uint16(get(b, at+codeAt, 2)),
		Jt:   uint8(get(b, at+jtAt, 1)),
		Jf:   uint8(get(b, at+jfAt, 1)),
		K:    uint32(get(b, at+kAt, 4)),
	}
}

// put writes a part; the parts lie within an instruction's bytes, so that there is no error.
func put(b []byte, at, width int, n uint64) []byte {
	b, _ = word.Put(b, at, width, false, n)
	return b
}

// get reads a part, likewise.
func get(b []byte, at, width int) uint64 {
	n, _ := word.Get(b, at, width, false)
	return n
}
