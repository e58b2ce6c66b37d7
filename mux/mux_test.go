package mux_test

import (
	"math"
	"slices"
	"strings"
	"testing"

	"strainer/api"
	"strainer/data"
	"strainer/mux"
	"strainer/systab"
)

const (
	bit    = 0x40000000
	noCall = 0xffffffff
)

// The tokens.
const (
	x86     = 0xc000003e
	i386    = 0x40000003
	arm64   = 0xc00000b7
	riscv64 = 0xc00000f3
)

// record tells a record of a token, a number, and arguments.
func record(arch, number uint32, args ...uint64) data.Record {
	r := data.Record{Number: number, Arch: arch}
	copy(r.Args[:], args)
	return r
}

// call tells one of an ABI with a name, or none.
func call(a int, name string) mux.Call { return mux.Call{Some: true, ABI: a, Name: name} }

// muxed tells a multiplexed one.
func muxed(name string) mux.Call {
	return mux.Call{Some: true, ABI: api.I386, Name: name, Muxed: true}
}

// is holds Of to an answer.
func is(t *testing.T, l []systab.Row, r data.Record, want mux.Call) {
	t.Helper()
	if c := mux.Of(l, r); c != want {
		t.Fatalf("Of %#x of a table of %d rows: %+v, not %+v", r, len(l), c, want)
	}
}

// odd tells a table of names at the edges: each of them stands in one ABI alone, or in one multiplexer alone, or nowhere.
func odd() []systab.Row {
	return []systab.Row{
		{Name: "a", Numbers: [5]int{1<<30 - 1, -1, -1, -1, -1}},
		{Name: "b", Numbers: [5]int{-1, 1<<30 - 1, -1, -1, -1}},
		{Name: "c", Numbers: [5]int{-1, -1, 1<<30 - 1, -1, -1}},
		{Name: "d", Numbers: [5]int{-1, -1, -1, 1<<30 - 1, -1}},
		{Name: "e", Numbers: [5]int{-1, -1, -1, -1, 1<<30 - 1}},
		{Name: "f", Numbers: [5]int{0, -1, -1, 117, 102}},
		{Name: "g", Numbers: [5]int{102, 0, -1, -1, 117}},
		{Name: "h", Numbers: [5]int{117, 102, 0, -1, -1}},
		{Name: "i", Numbers: [5]int{-1, 117, -1, 0, -1}},
		{Name: "j", Numbers: [5]int{-1, -1, -1, 102, 0}},
		{Name: "k", Numbers: [5]int{-1, -1, -1, -1, -1}},
		{Name: "l", Numbers: [5]int{-1, -1, 255, -1, -1}, Mux: 1, Sub: 1},
		{Name: "m", Numbers: [5]int{-1, -1, 1, -1, -1}, Mux: 1, Sub: 255},
		{Name: "n", Numbers: [5]int{-1, -1, -1, -1, -1}, Mux: 2, Sub: 1},
		{Name: "o", Numbers: [5]int{-1, -1, -1, -1, -1}, Mux: 2, Sub: 255},
		{Name: "p", Numbers: [5]int{-1, -1, -1, -1, -1}, Mux: 1, Sub: 102},
		{Name: "q", Numbers: [5]int{-1, -1, -1, -1, -1}, Mux: 1, Sub: 117},
	}
}

// tables tells tables that may be.
func tables(t *testing.T) [][]systab.Row {
	l := systab.Builtin()
	all := [][]systab.Row{nil, {}, l, l[:1], l[6:7], l[40:60], odd()}
	for _, l := range all {
		if at, e := systab.Right(l); e != api.OK {
			t.Fatalf("row %d of a table: %d", at, e)
		}
	}
	return all
}

// P12.1: 102 and 117 are multiplexers, and no other number.
func TestKind(t *testing.T) {
	ask := func(number uint32, want int) {
		t.Helper()
		if kind := mux.Kind(number); kind != want {
			t.Errorf("Kind of %#x: %d, not %d", number, kind, want)
		}
	}
	ask(102, 1)
	ask(117, 2)
	for number := range uint32(1 << 17) {
		if number != 102 && number != 117 {
			ask(number, 0)
			ask(^number, 0)
		}
	}
	for n := range 32 {
		ask(102^1<<n, 0)
		ask(117^1<<n, 0)
	}
	for _, number := range []uint32{102 << 8, 102 << 24, 117 << 8, 117 << 24, bit + 102, bit + 117, 102 + 3*bit, 117 + 3*bit, noCall} {
		ask(number, 0)
	}
}

// P12.1: of the built-in table; and the document's example.
func TestOfByHand(t *testing.T) {
	l := systab.Builtin()
	is(t, l, record(i386, 102, 3), muxed("connect"))
	is(t, l, record(i386, 102, 1), muxed("socket"))
	is(t, l, record(i386, 102, 5), muxed("accept"))
	is(t, l, record(i386, 102, 9), muxed("send"))
	is(t, l, record(i386, 102, 18), muxed("accept4"))
	is(t, l, record(i386, 117, 1), muxed("semop"))
	is(t, l, record(i386, 117, 3), muxed("semctl"))
	is(t, l, record(i386, 117, 24), muxed("shmctl"))
	is(t, l, record(i386, 362), call(api.I386, "connect"))
	is(t, l, record(i386, 3, 3), call(api.I386, "read"))
	is(t, l, record(x86, 0), call(api.X64, "read"))
	is(t, l, record(x86, 102, 3), call(api.X64, "getuid"))
	is(t, l, record(x86, bit+102, 3), call(api.X32, "getuid"))
	is(t, l, record(x86, bit), call(api.X32, "read"))
	is(t, l, record(arm64, 117, 3), call(api.Arm64, "ptrace"))
	is(t, l, record(riscv64, 117, 3), call(api.Riscv64, "ptrace"))
	is(t, l, record(riscv64, 259), call(api.Riscv64, "riscv_flush_icache"))
}

// P12.1: a multiplexer's number without a name is multiplexed, too; the numbers of the one are not the other's.
func TestOfUnlisted(t *testing.T) {
	l := systab.Builtin()
	for _, arg := range []uint64{0, 19, 20, 255, 256, 257, 102, 117, 1 << 31, 1<<31 + 3, math.MaxInt32, math.MaxUint32, math.MaxUint32 - 2, 1 << 32, 19 << 32, 3 << 32, math.MaxUint64, 1 << 63} {
		is(t, l, record(i386, 102, arg), muxed(""))
	}
	for _, arg := range []uint64{0, 4, 5, 10, 15, 20, 25, 255, 256 + 1, 102, 117, 1 << 31, math.MaxUint32, math.MaxUint32 - 1, 1 << 32, math.MaxUint64} {
		is(t, l, record(i386, 117, arg), muxed(""))
	}
	for _, number := range []uint32{102, 117} {
		for arg := range uint64(300) {
			is(t, nil, record(i386, number, arg), muxed(""))
			is(t, l[3:4], record(i386, number, arg), muxed(""))
		}
	}
}

// P12.1: which call a multiplexer does is told by the lower half of the first argument alone.
func TestOfLowerHalf(t *testing.T) {
	l := systab.Builtin()
	for _, high := range []uint64{0, 1, 3, 0x80000000, 0x7fffffff, math.MaxUint32} {
		for _, other := range []uint64{0, 1, 3, 21, math.MaxUint64} {
			is(t, l, record(i386, 102, high<<32+3, other, other, other, other, other), muxed("connect"))
			is(t, l, record(i386, 117, high<<32+21, other, other, other, other, other), muxed("shmat"))
			is(t, l, record(i386, 102, high<<32, other, other, other, other, other), muxed(""))
		}
	}
}

// P12.1: x32's bit is taken off an x32's number alone, and no other bit.
func TestOfBits(t *testing.T) {
	l := systab.Builtin()
	is(t, l, record(x86, 520), call(api.X64, ""))
	is(t, l, record(x86, bit+520), call(api.X32, "execve"))
	is(t, l, record(x86, 59), call(api.X64, "execve"))
	is(t, l, record(x86, bit+59), call(api.X32, ""))
	for _, number := range []uint32{2 * bit, 2*bit + 1, 2*bit + 59} {
		is(t, l, record(x86, number), call(api.X64, ""))
		is(t, l, record(x86, number+bit), call(api.X32, ""))
	}
	for _, number := range []uint32{bit, 2 * bit, 3 * bit} {
		is(t, l, record(i386, number+3), call(api.I386, ""))
		is(t, l, record(i386, number+102, 3), call(api.I386, ""))
		is(t, l, record(i386, number+117, 3), call(api.I386, ""))
		is(t, l, record(arm64, number+63), call(api.Arm64, ""))
		is(t, l, record(riscv64, number+63), call(api.Riscv64, ""))
	}
}

// P12.1: no call has no name: of x86_64's token it is x86_64's.
func TestOfNoCall(t *testing.T) {
	for _, l := range tables(t) {
		is(t, l, record(x86, noCall), call(api.X64, ""))
		is(t, l, record(x86, noCall-1), call(api.X32, ""))
		is(t, l, record(i386, noCall), call(api.I386, ""))
		is(t, l, record(arm64, noCall), call(api.Arm64, ""))
		is(t, l, record(riscv64, noCall), call(api.Riscv64, ""))
	}
}

// P12.1: a pseudo-number is no call's: of a name that is absent there is no record.
func TestOfAbsent(t *testing.T) {
	for _, l := range tables(t) {
		for at := range l {
			number := uint32(-1 - at)
			is(t, l, record(i386, number), call(api.I386, ""))
			is(t, l, record(arm64, number), call(api.Arm64, ""))
			is(t, l, record(riscv64, number), call(api.Riscv64, ""))
			is(t, l, record(x86, number&^bit), call(api.X64, ""))
			if number != noCall {
				is(t, l, record(x86, number), call(api.X32, ""))
			}
		}
	}
}

// P12.1, R2: of none of the four tokens there is no call, and nothing beside.
func TestOfNone(t *testing.T) {
	archs := []uint32{0, 1, 2, 3, 4, 7, 0x3e, 0xb7, 0xf3, 0x3e0000c0, 0x03000040, bit, noCall}
	for _, token := range []uint32{x86, i386, arm64, riscv64} {
		for n := range 32 {
			archs = append(archs, token^1<<n)
		}
	}
	for _, arch := range archs {
		for _, number := range []uint32{0, 1, 3, 102, 117, 362, bit, bit + 1, noCall} {
			is(t, systab.Builtin(), record(arch, number, 3), mux.Call{})
			is(t, odd(), record(arch, number, 1), mux.Call{})
		}
	}
}

// P12.1: numbers at the edges, and the multiplexers' numbers in the other ABIs.
func TestOfOdd(t *testing.T) {
	l := odd()
	is(t, l, record(x86, bit-1), call(api.X64, "a"))
	is(t, l, record(x86, 2*bit-1), call(api.X32, "b"))
	is(t, l, record(i386, bit-1), call(api.I386, "c"))
	is(t, l, record(arm64, bit-1), call(api.Arm64, "d"))
	is(t, l, record(riscv64, bit-1), call(api.Riscv64, "e"))
	for n, names := range map[uint32]string{0: "fghij", 102: "gh-jf", 117: "hi-fg"} {
		is(t, l, record(x86, n, 1), call(api.X64, names[:1]))
		is(t, l, record(x86, bit+n, 1), call(api.X32, names[1:2]))
		is(t, l, record(arm64, n, 1), call(api.Arm64, names[3:4]))
		is(t, l, record(riscv64, n, 1), call(api.Riscv64, names[4:]))
	}
	is(t, l, record(i386, 0, 1), call(api.I386, "h"))
	is(t, l, record(i386, 1, 255), call(api.I386, "m"))
	is(t, l, record(i386, 255, 1), call(api.I386, "l"))
	is(t, l, record(i386, 102, 1), muxed("l"))
	is(t, l, record(i386, 102, 255), muxed("m"))
	is(t, l, record(i386, 117, 1), muxed("n"))
	is(t, l, record(i386, 117, 255), muxed("o"))
	is(t, l, record(i386, 102, 102), muxed("p"))
	is(t, l, record(i386, 102, 117), muxed("q"))
	// The rows that have no multiplexer are not those of the number 0.
	is(t, l, record(i386, 102), muxed(""))
	is(t, l, record(i386, 117), muxed(""))
}

// told is a second telling of the document's words, row by row.
func told(l []systab.Row, r data.Record) mux.Call {
	tokens := map[uint32]int{x86: api.X64, i386: api.I386, arm64: api.Arm64, riscv64: api.Riscv64}
	a, some := tokens[r.Arch]
	if !some {
		return mux.Call{}
	}
	own := r.Number
	if a == api.X64 && own != noCall && own/bit%2 == 1 {
		a, own = api.X32, own-bit
	}
	c := mux.Call{Some: true, ABI: a, Muxed: a == api.I386 && (own == 102 || own == 117)}
	for _, row := range l {
		if !c.Muxed && row.Numbers[a] >= 0 && uint64(row.Numbers[a]) == uint64(own) {
			c.Name = row.Name
		}
		if c.Muxed && row.Mux == map[uint32]int{102: 1, 117: 2}[own] && uint64(row.Sub) == r.Args[0]%(1<<32) {
			c.Name = row.Name
		}
	}
	return c
}

// P12.1: all numbers and first arguments up to 600, of all tables, as they are told a second time.
func TestOfTwice(t *testing.T) {
	for _, l := range tables(t) {
		for n := range uint32(600) {
			for _, arch := range []uint32{x86, i386, arm64, riscv64, 0, bit, x86 + 1} {
				for _, number := range []uint32{n, bit + n, 2*bit + n, bit - 1 - n, 2*bit - 1 - n, noCall - n} {
					r := record(arch, number, uint64(n))
					is(t, l, r, told(l, r))
				}
			}
			for _, number := range []uint32{102, 117} {
				r := record(i386, number, uint64(n)<<40+uint64(n))
				is(t, l, r, told(l, r))
			}
		}
	}
}

// P12.1, P11.3: each name's numbers lead to it, in each ABI and through its multiplexer.
func TestOfEachName(t *testing.T) {
	for _, l := range tables(t) {
		for _, row := range l {
			for a, token := range [...]uint32{x86, x86, i386, arm64, riscv64} {
				number := uint32(row.Numbers[a])
				if a == api.X32 {
					number += bit
				}
				if row.Numbers[a] >= 0 {
					is(t, l, record(token, number, 3), call(a, row.Name))
				}
			}
			if row.Mux > 0 {
				is(t, l, record(i386, [...]uint32{0, 102, 117}[row.Mux], uint64(row.Sub)), muxed(row.Name))
			}
		}
	}
}

// P12.2: where a record came from does not count; of no ABI but i386 do arguments, and of i386's other numbers neither.
func TestWhatDoesNotCount(t *testing.T) {
	rows := [][6]uint64{{}, {1}, {3}, {21}, {0, 3}, {math.MaxUint64, 1, 2, 3, 4, 5}, {1<<32 + 3, 3, 3, 3, 3, 3}}
	for _, l := range tables(t) {
		for _, arch := range []uint32{x86, i386, arm64, riscv64, 0} {
			for _, n := range []uint32{0, 1, 3, 42, 63, 102, 117, 203, 259, 362, bit + 102, bit + 117, bit + 520, noCall} {
				for _, args := range rows {
					want := mux.Of(l, record(arch, n, args[:]...))
					for _, pointer := range []uint64{1, 3, 102, 1 << 32, math.MaxUint64} {
						is(t, l, data.Record{Number: n, Arch: arch, Pointer: pointer, Args: args}, want)
					}
					if arch != i386 || n != 102 && n != 117 {
						is(t, l, record(arch, n), want)
					}
				}
			}
		}
	}
}

// P12.1: which ways i386 has to a name; there are none to one that the table does not have.
func TestWays(t *testing.T) {
	ask := func(l []systab.Row, name string, direct, muxed bool) {
		t.Helper()
		if d, m := mux.Ways(l, name); d != direct || m != muxed {
			t.Errorf("Ways of %q: %t, %t", name, d, m)
		}
	}
	l := systab.Builtin()
	ask(l, "read", true, false)
	ask(l, "exit", true, false)
	ask(l, "bind", true, true)
	ask(l, "writev", true, false)
	ask(l, "accept", false, true)
	ask(l, "semop", false, true)
	ask(l, "recv", false, true)
	ask(l, "mmap", false, false)
	ask(l, "riscv_flush_icache", false, false)
	ask(odd(), "a", false, false)
	ask(odd(), "h", true, false) // with the number 0
	ask(odd(), "c", true, false)
	ask(odd(), "k", false, false)
	ask(odd(), "l", true, true)
	ask(odd(), "n", false, true)
	for _, l := range tables(t) {
		for _, row := range l {
			ask(l, row.Name, row.Numbers[2] > -1, row.Mux > 0)
			ask(nil, row.Name, false, false)
			for _, other := range []string{row.Name + " ", " " + row.Name, row.Name + "\x00", strings.ToUpper(row.Name), row.Name + "zzz"} {
				ask(l, other, false, false)
			}
		}
		for _, name := range []string{"", " ", "nope", "rea", "\xff", "socketcall", "ipc", "102", "117", "default", "x32"} {
			ask(l, name, false, false)
		}
	}
}

// R4, R5: the table is not changed, the spare room behind its end neither; asked again, the answers are the same.
func TestSameAgain(t *testing.T) {
	whole := systab.Builtin()
	l := whole[:60]
	for range 3 {
		for n := range uint32(400) {
			for _, r := range []data.Record{record(x86, n), record(i386, n), record(i386, 102, uint64(n)), record(i386, 117, uint64(n))} {
				is(t, l, r, told(l, r))
			}
		}
		for _, row := range whole {
			mux.Ways(l, row.Name)
		}
		if !slices.Equal(whole, systab.Builtin()) {
			t.Fatal("the table is changed")
		}
	}
}
