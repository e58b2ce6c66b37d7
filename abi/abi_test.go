package abi_test

import (
	"math"
	"testing"

	"strainer/abi"
	"strainer/api"
	"strainer/data"
)

const (
	bit    = 0x40000000
	noCall = 0xffffffff
)

// table tells the document's rows.
func table() []abi.Info {
	return []abi.Info{
		{Name: "x86_64", Token: 0xc000003e, Bit: false, Bits: 64},
		{Name: "x32", Token: 0xc000003e, Bit: true, Bits: 64},
		{Name: "i386", Token: 0x40000003, Bit: false, Bits: 32},
		{Name: "arm64", Token: 0xc00000b7, Bit: false, Bits: 64},
		{Name: "riscv64", Token: 0xc00000f3, Bit: false, Bits: 64},
	}
}

// none are numbers of no ABI; some of them are one's in their lower half, or lowest byte.
var none = []int{-1, -2, -3, -4, -5, -256, 5, 6, 7, 8, 16, 255, 256, 257, 1 << 16, 1<<16 + 1, 1 << 31, 1 << 32, 1<<32 + 1, 1<<32 + 2, math.MinInt, math.MinInt + 1, math.MinInt + 2, math.MinInt32, math.MaxInt - 1, math.MaxInt}

// numbers tells numbers of calls: at the edges, about the bit, and of one bit, or all but one.
func numbers() []uint32 {
	l := []uint32{0, 1, 2, 59, 102, 117, 322, 512, bit - 2, bit - 1, bit, bit + 1, bit + 5, 2*bit - 2, 2*bit - 1, 2 * bit, 2*bit + 1, 3*bit - 1, 3 * bit, 3*bit + 1, noCall - 2, noCall - 1, noCall, noCall &^ bit, noCall&^bit - 1}
	for n := range 32 {
		l = append(l, 1<<n, ^uint32(1<<n))
	}
	return l
}

// P8.1: each ABI's row; of others an error, and no row beside it (R2).
func TestOf(t *testing.T) {
	if len(table()) != api.ABIs {
		t.Fatal("not as many rows as ABIs")
	}
	for a, want := range table() {
		if i, e := abi.Of(a); i != want || e != api.OK {
			t.Errorf("Of %d: %+v, %d; not %+v", a, i, e, want)
		}
	}
	for _, a := range none {
		if i, e := abi.Of(a); i != (abi.Info{}) || e != api.ErrRange {
			t.Errorf("Of %d: %+v, %d", a, i, e)
		}
	}
}

// P8.1: each name's number; of others an error, and 0 beside it (R2).
func TestNamed(t *testing.T) {
	for want, i := range table() {
		if a, e := abi.Named(i.Name); a != want || e != api.OK {
			t.Errorf("Named %q: %d, %d; not %d", i.Name, a, e, want)
		}
		for _, name := range []string{i.Name + " ", " " + i.Name, i.Name + "\n", i.Name + "\x00", i.Name[1:], i.Name[:len(i.Name)-1], i.Name + i.Name} {
			notNamed(t, name)
		}
	}
	for _, name := range []string{"", " ", "\xff", "X86_64", "x86-64", "x86", "x64", "X32", "I386", "Arm64", "ARM64", "aarch64", "arm", "riscv", "riscv32", "RISCV64", "mips", "amd64", "0", "2", "0xc000003e"} {
		notNamed(t, name)
	}
}

func notNamed(t *testing.T, name string) {
	t.Helper()
	if a, e := abi.Named(name); a != 0 || e != api.ErrName {
		t.Errorf("Named %q: %d, %d", name, a, e)
	}
}

// selects holds Select to an answer.
func selects(t *testing.T, arch, number uint32, want int, some bool) {
	t.Helper()
	if a, is := abi.Select(arch, number); a != want || is != some {
		t.Errorf("Select of %#x, %#x: %d, %t; not %d, %t", arch, number, a, is, want, some)
	}
}

// P8.1: of x86_64's token the bit tells which one; no call is x86_64's; the number next to it, that has the bit, is x32's.
func TestSelectByBit(t *testing.T) {
	for _, number := range []uint32{0, 1, 5, bit - 1, 0x80000000, 0x80000001, 0xbffffffe, 0xbfffffff, noCall} {
		selects(t, 0xc000003e, number, api.X64, true)
	}
	for _, number := range []uint32{bit, bit + 1, bit + 5, bit + 512, 0x7ffffffe, 0x7fffffff, 0xc0000000, 0xc0000001, 0xfffffffd, 0xfffffffe} {
		selects(t, 0xc000003e, number, api.X32, true)
	}
	for _, number := range numbers() {
		want := api.X64
		if number>>30&1 == 1 && number != math.MaxUint32 {
			want = api.X32
		}
		selects(t, 0xc000003e, number, want, true)
	}
}

// P8.1: of the other tokens the number does not count, the bit neither.
func TestSelectByToken(t *testing.T) {
	for _, number := range numbers() {
		selects(t, 0x40000003, number, api.I386, true)
		selects(t, 0xc00000b7, number, api.Arm64, true)
		selects(t, 0xc00000f3, number, api.Riscv64, true)
	}
}

// P8.1, R2: of a token that is none's false, and 0 beside it: also of one of which a bit is another one, or that is turned, or of which not all is right.
func TestSelectNone(t *testing.T) {
	tokens := map[uint32]int{}
	for a, i := range table() {
		tokens[i.Token] = a
	}
	archs := []uint32{0, 1, 2, 3, 4, 5, 0x3e, 0xb7, 0xf3, 0x3e0000c0, 0x03000040, 0xb70000c0, 0xf30000c0, 0x8000003e, 0x4000003e, 0xc0000003, 0x400000b7, 0x800000b7, 0x400000f3, 0xffffffff, 1 << 31}
	for token := range tokens {
		archs = append(archs, token-1, token+1, ^token)
		for n := range 32 {
			archs = append(archs, token^1<<n)
		}
	}
	for _, arch := range archs {
		if _, is := tokens[arch]; is {
			t.Fatalf("%#x is a token", arch)
		}
		for _, number := range numbers() {
			selects(t, arch, number, 0, false)
		}
	}
}

// owns holds Own and Whole to answers.
func owns(t *testing.T, a int, number, own, whole uint32) {
	t.Helper()
	if n := abi.Own(a, number); n != own {
		t.Errorf("Own of %d, %#x: %#x, not %#x", a, number, n, own)
	}
	if n := abi.Whole(a, number); n != whole {
		t.Errorf("Whole of %d, %#x: %#x, not %#x", a, number, n, whole)
	}
}

// P8.2: of x32 the bit is taken away and put there, and no other one; of any other a the number stays as it is.
func TestOwnWhole(t *testing.T) {
	for _, c := range []struct{ number, own, whole uint32 }{
		{0, 0, bit}, {5, 5, bit + 5}, {bit, 0, bit}, {bit + 5, 5, bit + 5}, {bit - 1, bit - 1, 2*bit - 1}, {2*bit - 1, bit - 1, 2*bit - 1},
		{0x80000000, 0x80000000, 0xc0000000}, {0xc0000007, 0x80000007, 0xc0000007}, {0xbfffffff, 0xbfffffff, noCall}, {noCall, 0xbfffffff, noCall}, {noCall - 1, 0xbffffffe, noCall - 1},
	} {
		owns(t, api.X32, c.number, c.own, c.whole)
	}
	for _, number := range numbers() {
		owns(t, api.X32, number, number&0xbfffffff, number|0x40000000)
		for _, a := range append([]int{api.X64, api.I386, api.Arm64, api.Riscv64}, none...) {
			owns(t, a, number, number, number)
		}
	}
}

// P8.2: i386 sees the lower halves of all six; the others see all of them, and so does none.
func TestArgs(t *testing.T) {
	rows := [][6]uint64{
		{},
		{1<<32 + 1, 2 << 32, math.MaxUint64, 1 << 63, 1<<31 | 1<<40, 0xf1e2d3c4b5a69788},
		{0xffffffff, 0x100000000, 0x1ffffffff, 0xffffffff00000000, 0x8000000080000000, 7},
		{math.MaxUint64, math.MaxUint64, math.MaxUint64, math.MaxUint64, math.MaxUint64, math.MaxUint64},
	}
	for at := range 6 {
		var row [6]uint64
		row[at] = 0x0102030485060708
		rows = append(rows, row)
	}
	for _, row := range rows {
		var lower [6]uint64
		for at, n := range row {
			lower[at] = n % (1 << 32)
		}
		for _, r := range []data.Record{{Args: row}, {Number: 0x40000005, Arch: 0xc000003e, Pointer: math.MaxUint64, Args: row}, {Number: 3, Arch: 0x40000003, Pointer: 9, Args: row}} {
			for _, a := range append([]int{api.X64, api.X32, api.Arm64, api.Riscv64}, none...) {
				if got := abi.Args(a, r); got != row {
					t.Errorf("Args of %d, %#x: %#x", a, r, got)
				}
			}
			if got := abi.Args(api.I386, r); got != lower {
				t.Errorf("Args of i386, %#x: %#x, not %#x", r, got, lower)
			}
		}
	}
}

// P8.3: whole and own again a number below 2^30 is the same, in each ABI; and a whole one with the ABI's token is that ABI's.
func TestWholeAndOwn(t *testing.T) {
	ask := func(a int, own uint32) {
		whole := abi.Whole(a, own)
		if n := abi.Own(a, whole); n != own {
			t.Errorf("%#x of %d: whole %#x, own again %#x", own, a, whole, n)
		}
		if i, e := abi.Of(a); e == api.OK {
			selects(t, i.Token, whole, a, true)
		}
	}
	for _, a := range append([]int{0, 1, 2, 3, 4}, none...) {
		for n := range uint32(1000) {
			ask(a, n)
			ask(a, bit-1-n)
			ask(a, n*1073741%bit)
		}
	}
}

// P8.1, P8.3, R5: rows and names belong together, there and back; a record's ABI is the same, asked again, and whatever else stands in the record.
func TestSameAgain(t *testing.T) {
	for a := range api.ABIs {
		i, _ := abi.Of(a)
		if n, e := abi.Named(i.Name); n != a || e != api.OK {
			t.Errorf("%d is called %q, which is %d, %d", a, i.Name, n, e)
		}
		for _, number := range numbers() {
			first, _ := abi.Select(i.Token, number)
			for n := range 5 {
				b := data.Write(data.Record{Number: number, Arch: i.Token, Pointer: uint64(n) << 60, Args: [6]uint64{bit, uint64(n), math.MaxUint64}}, false)
				r, _ := data.Read(b[:], false)
				selects(t, r.Arch, r.Number, first, true)
			}
		}
	}
}
