package gen_test

import (
	"fmt"
	"math"
	"slices"
	"strings"
	"testing"

	"strainer/abi"
	"strainer/act"
	"strainer/api"
	"strainer/cond"
	"strainer/data"
	"strainer/gen"
	"strainer/inst"
	"strainer/model"
	"strainer/mux"
	"strainer/policy"
	"strainer/resolve"
	"strainer/systab"
)

const (
	bit    = 0x40000000
	noCall = 0xffffffff
	half   = math.MaxUint32
	most   = math.MaxUint64
)

// The tokens.
const (
	x86     = 0xc000003e
	i386    = 0x40000003
	arm64   = 0xc00000b7
	riscv64 = 0xc00000f3
)

// Codes of actions.
const (
	toKill  = 0x80000000
	toTrap  = 0x00030000
	toErrno = 0x00050000
	toLog   = 0x7ffc0000
	toAllow = 0x7fff0000
)

// The operators.
const (
	equal   = 1
	unequal = 2
	below   = 3
	atLeast = 6
	masked  = 7
)

// Codes of instructions.
const (
	loads = 0x20
	jumps = 0x05
	jeq   = 0x15
	rets  = 0x06
	retA  = 0x16
)

// brief tells a thing's beginning.
func brief(a any) string { return fmt.Sprintf("%.600s", fmt.Sprintf("%+v", a)) }

// parsed tells the policy of a text.
func parsed(t *testing.T, text string) policy.Policy {
	t.Helper()
	p, at, e := policy.Parse(text)
	if e != api.OK {
		t.Fatalf("Parse of %q: %d, %d", text, at, e)
	}
	return p
}

// resolved tells the plan of a policy that has one.
func resolved(t *testing.T, p policy.Policy, l []systab.Row) resolve.Plan {
	t.Helper()
	x, at, e := resolve.Resolve(p, l)
	if e != api.OK {
		t.Fatalf("Resolve of %s: %d, %d", brief(p), at, e)
	}
	return x
}

// program is items that are made ready to run.
type program struct {
	items  []gen.Item
	kinds  []inst.Kind
	places map[int]int
}

// kinds are those that items of a plan may have.
var kinds = []inst.Kind{inst.Load, inst.And, inst.Jump, inst.Equal, inst.Greater, inst.Least, inst.Common, inst.RetK}

// itemsOf tells a plan's items, made ready; it holds them to what is promised of them whatever a record is.
func itemsOf(t *testing.T, x resolve.Plan) program {
	t.Helper()
	p := program{items: gen.Items(x), places: map[int]int{}}
	if !gen.Formed(p.items) {
		t.Fatalf("not formed: %s, of %s", brief(p.items), brief(x))
	}
	words, codes := mayLoad(x), mayReturn(x)
	for at, n := range p.items {
		kind, withX, _ := inst.Of(n.Code)
		p.kinds = append(p.kinds, kind)
		switch {
		case n.Mark != 0:
			p.places[n.Mark] = at
		case withX || !slices.Contains(kinds, kind):
			t.Fatalf("%d: a code %#x", at, n.Code)
		case kind == inst.Load && !slices.Contains(words, n.K):
			t.Fatalf("%d: a load of %d, not of %d; of %s", at, n.K, words, brief(x))
		case kind == inst.RetK && !slices.Contains(codes, n.K):
			t.Fatalf("%d: a return of %#x, not of %#x; of %s", at, n.K, codes, brief(x))
		}
	}
	return p
}

// mayLoad tells the places of the words that the items of a plan may load.
func mayLoad(x resolve.Plan) []uint32 {
	l := []uint32{0, 4}
	for _, own := range x.Entries {
		for _, e := range own {
			for _, r := range e.Rules {
				for _, c := range r.Conds {
					l = append(l, uint32(16+8*c.Arg), uint32(20+8*c.Arg))
				}
			}
		}
	}
	if len(x.Subs[0])+len(x.Subs[1]) > 0 {
		l = append(l, 16)
	}
	slices.Sort(l)
	return slices.Compact(l)
}

// mayReturn tells the codes that they may return.
func mayReturn(x resolve.Plan) []uint32 {
	l := []uint32{toKill, x.Default}
	for _, own := range x.Entries {
		for _, e := range own {
			for _, r := range e.Rules {
				l = append(l, r.Code)
			}
		}
	}
	for _, own := range x.Subs {
		for _, s := range own {
			l = append(l, s.Code)
		}
	}
	slices.Sort(l)
	return slices.Compact(l)
}

// run tells what items tell of a record, as layer 6 has it, jumps going on at their marks.
func (p program) run(t *testing.T, r data.Record) uint32 {
	t.Helper()
	b := data.Write(r, false)
	a := uint32(0)
	for at := 0; at < len(p.items); at++ {
		n, is := p.items[at], true
		switch p.kinds[at] {
		case inst.Load:
			a = uint32(b[n.K]) | uint32(b[n.K+1])<<8 | uint32(b[n.K+2])<<16 | uint32(b[n.K+3])<<24
		case inst.And:
			a &= n.K
		case inst.RetK:
			return n.K
		case inst.Equal:
			is = a == n.K
		case inst.Greater:
			is = a > n.K
		case inst.Least:
			is = a >= n.K
		case inst.Common:
			is = a&n.K != 0
		}
		to := n.False
		if is {
			to = n.True
		}
		if to != 0 {
			at = p.places[to]
		}
	}
	t.Fatal("a run without an end")
	return 0
}

// tells holds items to the code of a record.
func (p program) tells(t *testing.T, r data.Record, want uint32) {
	t.Helper()
	if code := p.run(t, r); code != want {
		t.Errorf("%#x: %#x, not %#x", r, code, want)
	}
}

// record tells one of a token and a number, with arguments.
func record(arch, number uint32, args ...uint64) data.Record {
	r := data.Record{Arch: arch, Number: number, Pointer: 0x123456789abcdef0}
	copy(r.Args[:], args)
	return r
}

// mark tells a mark; ret a return.
func mark(n int) gen.Item { return gen.Item{Mark: n} }

func ret(k uint32) gen.Item { return gen.Item{Code: rets, K: k} }

// jump tells a plain jump.
func jump(to int) gen.Item { return gen.Item{Code: jumps, True: to} }

// branch tells a jump if equal.
func branch(yes, no int) gen.Item { return gen.Item{Code: jeq, K: 3, True: yes, False: no} }

// P20.1: items that are formed.
func TestFormed(t *testing.T) {
	for at, l := range [][]gen.Item{
		{ret(0)},
		{{Code: retA}},
		{{Code: rets}},
		{{}, ret(1)}, // the number 0 into A
		{{Code: 0x20, K: 3}, {Code: 0x34}, {Code: 0x02, K: 99}, {Code: 0x74, K: 77}, ret(1)},
		{{Code: 0x61}, {Code: 0x0c}, {Code: 0x87}, {Code: 0xac}, {Code: retA}},
		{mark(1), ret(1)},
		{mark(7), mark(3), mark(math.MaxInt), ret(1)},
		{jump(0), ret(1)},
		{jump(5), mark(5), ret(1)},
		{jump(5), jump(5), ret(7), mark(5), ret(1)},
		{{Code: jumps, K: 9, True: 1}, mark(1), ret(1)},
		{branch(0, 0), ret(1)},
		{branch(1, 0), mark(1), ret(1)},
		{branch(0, 1), mark(1), ret(1)},
		{branch(1, 1), mark(1), ret(1)},
		{branch(2, 1), ret(2), mark(1), mark(2), ret(1)},
		{{Code: 0x25, True: 1, False: 2}, {Code: 0x35, True: 2, False: 1}, {Code: 0x45, False: 1}, mark(2), mark(1), ret(1)},
		{{Code: 0x1d, True: 1, False: 2}, {Code: 0x2d, True: 2, False: 1}, {Code: 0x3d, True: 1}, {Code: 0x4d, False: 1}, mark(2), mark(1), ret(1)},
		{ret(1), ret(2), mark(9), ret(3)},
	} {
		if !gen.Formed(l) || !toldFormed(l) {
			t.Errorf("%d: not formed: %+v", at, l)
		}
	}
}

// P20.1: items that are not.
func TestNotFormed(t *testing.T) {
	for at, l := range [][]gen.Item{
		nil,
		{},
		{mark(1)},
		{ret(1), mark(1)}, // the last one is no instruction
		{{}},
		{jump(0)},
		{branch(0, 0)},
		{ret(1), {Code: 0x84}},
		{jump(1), mark(1)},
		{mark(-1), ret(1)},
		{jump(-1), mark(-1), ret(1)},
		{jump(-1), ret(1)},
		{branch(0, -1), mark(1), ret(1)},
		{branch(-1, 0), mark(1), ret(1)},
		{mark(1), mark(1), ret(1)},
		{mark(1), ret(2), mark(1), ret(1)},
		{jump(1), mark(1), mark(1), ret(1)},
		{jump(1), ret(1)}, // the mark does not stand there
		{jump(2), mark(1), ret(1)},
		{mark(1), jump(1), ret(1)}, // it stands ahead
		{ret(0), mark(1), jump(1), ret(1)},
		{branch(1, 2), mark(1), ret(1)},
		{branch(2, 1), mark(1), ret(1)},
		{mark(1), branch(0, 1), ret(1)},
		{mark(1), branch(2, 1), mark(2), ret(1)},
		{mark(1), branch(1, 0), ret(1)},
		{{Code: jumps, False: 1}, mark(1), ret(1)}, // a plain jump is for true alone
		{{Code: jumps, True: 1, False: 1}, mark(1), ret(1)},
		{{Code: rets, True: 1}, mark(1), ret(1)}, // no jumps
		{{Code: rets, False: 1}, mark(1), ret(1)},
		{{Code: loads, True: 1}, mark(1), ret(1)},
		{{Code: 0x54, False: 1}, mark(1), ret(1)},
		{{Code: 0x84, True: 1, False: 1}, mark(1), ret(1)},
		{{True: 1}, mark(1), ret(1)},
		{{Code: rets, True: 1}},
		{{Code: rets, False: 5}},
		{{Code: 40}, ret(1)}, // no code
		{{Code: 0x28}, ret(1)},
		{{Code: 0x94}, ret(1)},
		{{Code: 0x0e}},
		{{Code: 0x8d}, ret(1)},
		{{Code: 0xffff}, ret(1)},
		{{Mark: 1, K: 1}, ret(1)}, // more than a mark
		{{Mark: 1, Code: rets}, ret(1)},
		{{Mark: 1, Code: rets}},
		{{Mark: 1, True: 1}, ret(1)},
		{{Mark: 1, True: 2}, mark(2), ret(1)},
		{{Mark: 1, False: 2}, mark(2), ret(1)},
		{{Mark: 1, Code: jumps, True: 2}, mark(2), ret(1)},
	} {
		if gen.Formed(l) || toldFormed(l) {
			t.Errorf("%d: formed: %+v", at, l)
		}
	}
}

// toldFormed tells whether items are formed, word by word from the document.
func toldFormed(l []gen.Item) bool {
	if len(l) == 0 {
		return false
	}
	count := func(l []gen.Item, mark int) (n int) {
		for _, x := range l {
			if x.Mark == mark {
				n++
			}
		}
		return n
	}
	for at, x := range l {
		if x.Mark != 0 {
			if x.Mark < 1 || x.Code != 0 || x.K != 0 || x.True != 0 || x.False != 0 || count(l, x.Mark) != 1 {
				return false
			}
			continue
		}
		kind, _, ok := inst.Of(x.Code)
		named := map[inst.Kind]int{inst.Jump: 1, inst.Equal: 2, inst.Greater: 2, inst.Least: 2, inst.Common: 2}[kind]
		if !ok || named < 2 && x.False != 0 || named < 1 && x.True != 0 {
			return false
		}
		for _, to := range []int{x.True, x.False} {
			if to != 0 && (to < 0 || count(l[at+1:], to) != 1) {
				return false
			}
		}
	}
	kind, _, _ := inst.Of(l[len(l)-1].Code)
	return l[len(l)-1].Mark == 0 && (kind == inst.RetK || kind == inst.RetA)
}

// P20.1: of all short lists of some items, held against a second telling.
func TestFormedAll(t *testing.T) {
	some := []gen.Item{mark(1), mark(2), {Mark: 2, K: 1}, mark(-2), ret(1), {Code: retA}, {}, {Code: 0x28}, jump(0), jump(1), jump(2), {Code: jumps, False: 1}, branch(0, 1), branch(2, 1), branch(0, -2), {Code: 0x84, True: 2}}
	met := [2]int{}
	var grow func(l []gen.Item)
	grow = func(l []gen.Item) {
		want := toldFormed(l)
		if gen.Formed(l) != want {
			t.Fatalf("%+v: formed: %t", l, !want)
		}
		if want {
			met[1]++
		} else {
			met[0]++
		}
		for _, x := range some {
			if len(l) < 4 {
				grow(append(l[:len(l):len(l)], x))
			}
		}
	}
	grow(nil)
	if met[0] < 10000 || met[1] < 500 {
		t.Errorf("%d", met)
	}
}

// P20.1: the document's example, of each default.
func TestExample(t *testing.T) {
	for _, x := range []resolve.Plan{{Default: toAllow}, {Default: toAllow, X32: true}, {Default: toErrno + 5}, {Default: toKill, X32: true}, {}} {
		p := itemsOf(t, x)
		for _, arch := range []uint32{x86, i386, arm64, riscv64} {
			for _, n := range []uint32{0, 1, 102, 117, bit - 1, 2 * bit, 2*bit + 1, 3*bit - 1, noCall} {
				p.tells(t, record(arch, n), x.Default)
			}
		}
		for _, n := range []uint32{bit, bit + 1, 2*bit - 1, 3 * bit, 3*bit + 1, noCall - 1} {
			want := x.Default
			if !x.X32 {
				want = toKill
			}
			p.tells(t, record(x86, n), want)
			p.tells(t, record(i386, n), x.Default)
			p.tells(t, record(arm64, n), x.Default)
		}
	}
}

// P20.1: a record of none of the four tokens is killed, whatever the plan is.
func TestTokens(t *testing.T) {
	for _, x := range []resolve.Plan{{Default: toAllow}, resolved(t, parsed(t, "default allow\nx32 on\nread log\nconnect trap\nopen errno 3 if a0 == 1"), systab.Builtin())} {
		p := itemsOf(t, x)
		archs := []uint32{0, 1, 3, 62, 0xb7, 0xf3, half, 1 << 31, bit, 0xc0000000, 0xc000003, 0x3e0000c0, 0x03000040, 0xb70000c0}
		for _, arch := range []uint32{x86, i386, arm64, riscv64} {
			archs = append(archs, arch-1, arch+1)
			for n := range 32 {
				archs = append(archs, arch^1<<n)
			}
		}
		for _, arch := range archs {
			for _, n := range []uint32{0, 3, 63, 102, bit, noCall} {
				p.tells(t, record(arch, n, 3), toKill)
			}
		}
	}
}

// P20.1: x32 is judged by its own numbers alone, and killed, if it is not let in; no call gets the default.
func TestX32(t *testing.T) {
	l := systab.Builtin()
	const rules = "\nexecve log\nread allow\nreadv trap if a0 == 7"
	out, in := itemsOf(t, resolved(t, parsed(t, "default errno 9"+rules), l)), itemsOf(t, resolved(t, parsed(t, "default errno 9\nx32 on"+rules), l))
	for _, c := range []struct {
		number uint32
		arg    uint64
		out    uint32
		in     uint32
	}{
		{0, 0, toAllow, toAllow},
		{59, 0, toLog, toLog},
		{520, 0, toErrno + 9, toErrno + 9},
		{19, 7, toTrap, toTrap},
		{515, 7, toErrno + 9, toErrno + 9},
		{bit, 0, toKill, toAllow},
		{bit + 59, 0, toKill, toErrno + 9},
		{bit + 520, 0, toKill, toLog},
		{bit + 19, 7, toKill, toErrno + 9},
		{bit + 515, 7, toKill, toTrap},
		{bit + 515, 1<<32 + 7, toKill, toErrno + 9},
		{2*bit - 1, 0, toKill, toErrno + 9},
		{2 * bit, 0, toErrno + 9, toErrno + 9},
		{2*bit + 59, 0, toErrno + 9, toErrno + 9},
		{3 * bit, 0, toKill, toErrno + 9},
		{3*bit + 520, 0, toKill, toErrno + 9},
		{noCall - 1, 0, toKill, toErrno + 9},
		{noCall, 0, toErrno + 9, toErrno + 9},
		{noCall, 7, toErrno + 9, toErrno + 9},
	} {
		out.tells(t, record(x86, c.number, c.arg), c.out)
		in.tells(t, record(x86, c.number, c.arg), c.in)
	}
}

// P20.1: subs are found by the lower half of the first argument, of i386 alone; of an unlisted one, and of a multiplexer without subs, the default is told.
func TestSubs(t *testing.T) {
	l := systab.Builtin()
	for _, c := range []struct {
		rules string
		subs  [2]map[uint64]uint32
	}{
		{"connect notify\nsend log\naccept allow\nbind trap\ngetuid kill_thread", [2]map[uint64]uint32{{2: toTrap, 3: 0x7fc00000, 5: toAllow, 9: toLog}, {}}},
		{"semop allow\nshmctl log\ngetuid kill_thread", [2]map[uint64]uint32{{}, {1: toAllow, 24: toLog}}},
		{"semop allow\nshmctl log\nconnect trap\ngetuid kill_thread", [2]map[uint64]uint32{{3: toTrap}, {1: toAllow, 24: toLog}}},
		{"getuid kill_thread", [2]map[uint64]uint32{}},
	} {
		p := itemsOf(t, resolved(t, parsed(t, "default errno 4\n"+c.rules), l))
		for kind, number := range []uint32{102, 117} {
			for n := range uint64(300) {
				want, some := c.subs[kind][n]
				if !some {
					want = toErrno + 4
				}
				p.tells(t, record(i386, number, n, 3), want)
				p.tells(t, record(i386, number, 7<<32+n), want)
			}
			p.tells(t, record(i386, number, half), toErrno+4)
			p.tells(t, record(i386, number, 3<<31), toErrno+4)
			p.tells(t, record(i386, bit+number, 3), toErrno+4)
			p.tells(t, record(arm64, number, 3), toErrno+4)
			p.tells(t, record(x86, 117, 3), toErrno+4)
			p.tells(t, record(x86, 102, 3), 0)
		}
	}
}

// values tells few values, on both sides of each border.
func values() []uint64 {
	return []uint64{0, 1, 2, 3, 1 << 31, half - 1, half, half + 1, half + 2, half + 3, 5<<32 + 7, 1 << 63, 1<<63 + 1, most - half, most - half + 1, most - 1, most}
}

// arguments tells values near one: itself, its neighbours, its halves apart, the one for the other, and each near it.
func arguments(v uint64) []uint64 {
	low, high := v&half, v>>32
	l := []uint64{v, v - 1, v + 1, low, high << 32, low<<32 + high, v ^ 1<<31, v ^ 1<<32, v ^ 1<<63, ^v, 0, most, half, half << 32}
	for _, h := range []uint64{high - 1, high, high + 1} {
		for _, w := range []uint64{0, low - 1, low, low + 1, half} {
			l = append(l, h<<32|w&half)
		}
	}
	return l
}

// P20.1: conditions of all operators, of arguments near each border, whole and cut to their lower halves.
func TestConditions(t *testing.T) {
	l := []systab.Row{{Name: "call", Numbers: [5]int{1, 2, 3, 4, 5}}}
	var conds []cond.Cond
	for _, v := range values() {
		for op := equal; op <= atLeast; op++ {
			conds = append(conds, cond.Cond{Op: op, Value: v})
		}
		for _, m := range values() {
			conds = append(conds, cond.Cond{Op: masked, Mask: m, Value: v & m})
		}
	}
	for at, c := range conds {
		c.Arg = at % 6
		x := resolved(t, policy.Policy{Default: act.Action{Kind: 1}, X32: true, Rules: []policy.Rule{{Name: "call", Action: act.Action{Kind: 8}, Conds: []cond.Cond{c}}}}, l)
		p := itemsOf(t, x)
		for _, v := range append(arguments(c.Value), arguments(c.Mask)...) {
			r := data.Record{Args: [6]uint64{^v, ^v, ^v, ^v, ^v, ^v}}
			r.Args[c.Arg] = v
			for a, arch := range []uint32{x86, x86, i386, arm64, riscv64} {
				r.Arch, r.Number = arch, abi.Whole(a, uint32(a+1))
				want := uint32(toKill)
				if cond.Holds(c, abi.Args(a, r)) {
					want = toAllow
				}
				if code := p.run(t, r); code != want {
					t.Fatalf("%s: %#x: %#x, not %#x", cond.Text(c), r, code, want)
				}
			}
		}
	}
}

// P20.1: several conditions of several arguments all have to hold; of several rules the first one counts, the default without.
func TestRules(t *testing.T) {
	p := itemsOf(t, resolved(t, parsed(t, "default errno 1\nread allow if a0 == 1 and a1 != 2 and a2 < 3 and a3 >= 4 and a4 & 5 == 4 and a5 > 4294967296\nread log if a5 > 4294967296\nread trap if a0 == 1\nwrite log if a0 == 1\nwrite log if a1 == 1\nwrite errno 1 if a2 == 1\nwrite allow"), systab.Builtin()))
	all := []uint64{1, 3, 2, 4, 6, half + 2}
	for _, c := range []struct {
		at    int
		value uint64
		want  uint32
	}{{0, 1, toAllow}, {0, 2, toLog}, {0, half + 2, toLog}, {1, 2, toLog}, {1, half + 3, toAllow}, {2, 3, toLog}, {2, half + 1, toLog}, {2, 0, toAllow}, {3, 3, toLog}, {3, 1 << 40, toAllow}, {4, 5, toLog}, {4, 1<<50 + 14, toAllow}, {5, half + 1, toTrap}, {5, 0, toTrap}, {5, most, toAllow}} {
		args := slices.Clone(all)
		args[c.at] = c.value
		p.tells(t, record(x86, 0, args...), c.want)
		p.tells(t, record(riscv64, 63, args...), c.want)
	}
	p.tells(t, record(x86, 0, 0, 3, 2, 4, 6, half+1), toErrno+1)
	p.tells(t, record(i386, 3, all...), toTrap) // a5 is 1 there
	for n := range uint64(8) {
		want := []uint32{toAllow, toLog, toLog, toLog, toErrno + 1, toLog, toLog, toLog}[n]
		p.tells(t, record(x86, 1, n&1, n>>1&1, n>>2), want)
		p.tells(t, record(arm64, 64, n&1, n>>1&1, n>>2), want)
		p.tells(t, record(i386, 4, n&1+1<<32, n>>1&1+1<<33, n>>2+1<<34), want)
	}
}

// chance tells numbers that are the same each time.
type chance uint64

func (c *chance) below(n int) int {
	*c = *c*6364136223846793005 + 1442695040888963407
	mixed := uint64(*c>>32) ^ uint64(*c>>47)
	return int((mixed * 0x9e3779b97f4a7c15 >> 33) % uint64(n))
}

// fewRows tells rows of the built-in table, of all kinds: in all ABIs, in some, and with a multiplexer, too, or alone.
func fewRows() []systab.Row {
	names := []string{"accept", "connect", "execve", "getuid", "mmap2", "msgget", "open", "ptrace", "read", "riscv_flush_icache", "semop", "send", "write"}
	return slices.DeleteFunc(systab.Builtin(), func(r systab.Row) bool { return !slices.Contains(names, r.Name) })
}

// cond tells a right condition, whose value has no bits beside its mask.
func (c *chance) cond() cond.Cond {
	few := values()
	d := cond.Cond{Arg: c.below(6), Op: 1 + c.below(7), Value: few[c.below(len(few))]}
	if d.Op == masked {
		d.Mask = few[c.below(len(few))]
		d.Value &= d.Mask
	}
	return d
}

// policy tells one that may be, and that mostly has a plan.
func (c *chance) policy(l []systab.Row) policy.Policy {
	actions := []act.Action{{Kind: 1}, {Kind: 2}, {Kind: 3}, {Kind: 4, Number: 1}, {Kind: 4, Number: 2}, {Kind: 5}, {Kind: 7}, {Kind: 8}}
	p := policy.Policy{Default: actions[c.below(8)], X32: c.below(2) == 0}
	ended := map[string]bool{}
	for range c.below(20) {
		row := l[c.below(len(l))]
		r := policy.Rule{Name: row.Name, Action: actions[c.below(8)]}
		if ended[r.Name] {
			continue
		}
		for range c.below(5) {
			if row.Mux == 0 {
				r.Conds = append(r.Conds, c.cond())
			}
		}
		ended[r.Name] = len(r.Conds) == 0
		p.Rules = append(p.Rules, r)
	}
	return p
}

// argument tells one near what a policy asks, or any.
func (c *chance) argument(p policy.Policy) uint64 {
	if len(p.Rules) > 0 {
		if asked := p.Rules[c.below(len(p.Rules))].Conds; len(asked) > 0 {
			few := arguments(asked[c.below(len(asked))].Value)
			return few[c.below(len(few))]
		}
	}
	return uint64(c.below(26)) + uint64(c.below(2))<<32
}

// record tells one, seldom of no token, of a number of a policy's, or near one, or any.
func (c *chance) record(p policy.Policy, l []systab.Row) data.Record {
	a := c.below(5)
	r := data.Record{Arch: []uint32{x86, x86, i386, arm64, riscv64}[a], Pointer: uint64(c.below(1 << 30))}
	row := l[c.below(len(l))]
	if len(p.Rules) > 0 && c.below(4) > 0 {
		row, _, _ = systab.Find(l, p.Rules[c.below(len(p.Rules))].Name)
	}
	r.Number = abi.Whole(a, uint32(row.Numbers[a]))
	switch c.below(12) {
	case 0:
		r.Number = []uint32{0, 999, bit - 1, bit, 2 * bit, 3 * bit, noCall, noCall - 1, noCall - 3}[c.below(9)]
	case 1, 2:
		r.Number = []uint32{102, 117, bit + 102, bit + 117}[c.below(4)]
	case 3:
		r.Number += uint32(c.below(3) - 1)
	case 4:
		r.Number ^= 1 << c.below(32)
	case 5:
		r.Arch ^= 1 << c.below(32)
	}
	for at := range r.Args {
		r.Args[at] = c.argument(p)
	}
	if mux.Kind(r.Number) > 0 && row.Mux > 0 {
		r.Args[0] = uint64(row.Sub) + uint64(c.below(2))<<32
	}
	return r
}

// P20.1, P20.2: a run of a plan's items tells what the policy judges, over many policies.
func TestJudges(t *testing.T) {
	var c chance
	l := fewRows()
	plans, codes := 0, map[uint32]int{}
	for range 3000 {
		p := c.policy(l)
		x, _, e := resolve.Resolve(p, l)
		if e != api.OK {
			continue
		}
		plans++
		items := itemsOf(t, x)
		for range 60 {
			r := c.record(p, l)
			want, _ := model.Judge(p, l, r)
			if code := items.run(t, r); code != want {
				t.Fatalf("%#x, of %s: %#x, not %#x", r, brief(p), code, want)
			}
			if want != x.Default {
				codes[want]++
			}
		}
	}
	if plans < 2000 || len(codes) != 8 || codes[toTrap] < 1000 {
		t.Errorf("%d plans, %v", plans, codes)
	}
}

// P20.2: of all numbers of the built-in table, and of their neighbours, in all ABIs; so trees of all ABIs are there, and bodies of all names.
func TestJudgesAll(t *testing.T) {
	l := systab.Builtin()
	text := "\nx32 on"
	for at, r := range l {
		text += fmt.Sprintf("\n%s errno %d", r.Name, at+1)
		if r.Mux == 0 {
			text += fmt.Sprintf(" if a1 < 4294967297\n%s trace %d if a2 & 12884901889 == 1", r.Name, at+1)
		}
	}
	for _, text := range []string{"default kill" + text, "default errno 3\nx32 off" + strings.TrimPrefix(text, "\nx32 on")} {
		p := parsed(t, text)
		items := itemsOf(t, resolved(t, p, l))
		for _, r := range near(l) {
			want, _ := model.Judge(p, l, r)
			if code := items.run(t, r); code != want {
				t.Fatalf("%#x: %#x, not %#x", r, code, want)
			}
		}
	}
}

// near tells records of each number of a table, and of its neighbour, each with several arguments; and all of the multiplexers.
func near(l []systab.Row) []data.Record {
	var all []data.Record
	for _, r := range l {
		for a, arch := range []uint32{x86, x86, i386, arm64, riscv64} {
			n := abi.Whole(a, uint32(r.Numbers[a]))
			for _, args := range [][]uint64{{3}, {0, 1<<32 + 1, 1}, {0, most, 1 << 32}, {0, most, 1}} {
				all = append(all, record(arch, n, args...), record(arch, n+1, args...))
			}
		}
	}
	for n := range uint64(30) {
		for _, number := range []uint32{102, 117} {
			all = append(all, record(i386, number, n), record(i386, number, n<<32+n))
		}
	}
	return all
}

// P20.1: no load of an argument that is not asked, of the first one neither; and no load of it without subs.
func TestLoads(t *testing.T) {
	for _, c := range []struct {
		text  string
		words []uint32
	}{
		{"default kill", []uint32{0, 4}},
		{"default kill\nread allow\nopen log", []uint32{0, 4}},
		{"default kill\nconnect allow", []uint32{0, 4, 16}},
		{"default kill\nread allow if a5 == 4", []uint32{0, 4, 56, 60}},
		{"default kill\nread allow if a5 == 4\nsemop log", []uint32{0, 4, 16, 56, 60}},
		{"default kill\nwaitpid allow if a3 >= 4 and a1 < 1099511627776", []uint32{0, 4, 40}}, // i386 alone has it
	} {
		var words []uint32
		for _, n := range itemsOf(t, resolved(t, parsed(t, c.text), systab.Builtin())).items {
			if n.Code == loads {
				words = append(words, n.K)
			}
		}
		slices.Sort(words)
		if words = slices.Compact(words); !slices.Equal(words, c.words) {
			t.Errorf("%q: loads %d, not %d", c.text, words, c.words)
		}
	}
}

// ways tells which items some way leads to.
func ways(p program) []bool {
	met := make([]bool, len(p.items))
	met[0] = true
	for at, n := range p.items {
		if !met[at] || p.kinds[at] == inst.RetK && n.Mark == 0 {
			continue
		}
		named := []int{0}
		switch p.kinds[at] {
		case inst.Jump:
			named = []int{n.True}
		case inst.Equal, inst.Greater, inst.Least, inst.Common:
			named = []int{n.True, n.False}
		}
		for _, to := range named {
			if to == 0 {
				met[at+1] = true
			} else {
				met[p.places[to]] = true
			}
		}
	}
	return met
}

// size tells how many instructions are there.
func size(p program) int {
	return len(p.items) - len(p.places)
}

// P22.1 asks that a policy of a size of at most 40 always has a program, even if each of its jumps needs three instructions. Nor is an instruction there that no way leads to.
func TestSize(t *testing.T) {
	l := systab.Builtin()
	var names []string
	for _, r := range l {
		if r.Mux == 0 && !slices.Contains(r.Numbers[:], -1) {
			names = append(names, r.Name)
		}
	}
	for perRule := range 7 {
		text, left := "default kill\nx32 on", 40
		for n := 0; left > perRule; n++ {
			left -= perRule + 1
			var conds []string
			for at := range perRule {
				conds = append(conds, fmt.Sprintf("a%d & %d == 4294967297", at, 0x7fffffff7fffffff-2*n))
			}
			text += fmt.Sprintf("\n%s errno %d", names[n%len(names)], n)
			if perRule > 0 {
				text += " if " + strings.Join(conds, " and ")
			}
			if n == len(names)-1 && perRule == 0 {
				break
			}
		}
		p := itemsOf(t, resolved(t, parsed(t, text), l))
		if n := size(p); 3*n > api.MaxInst {
			t.Errorf("%d conditions a rule: %d instructions", perRule, n)
		}
		for at, met := range ways(p) {
			if !met && p.items[at].Mark == 0 {
				t.Errorf("%d conditions a rule: no way leads to %d", perRule, at)
			}
		}
	}
}

// A program has its bound, so that items are few: rules that are the same of several ABIs stand once, each code of a search once, and of a half in which no bit is asked nothing is loaded.
func TestFew(t *testing.T) {
	for _, c := range []struct {
		text string
		most int
	}{
		{"default kill\nx32 on", 6 + 4*3},
		{"default kill\nx32 on\nread allow", 6 + 4*4 + 2},
		{"default kill\nx32 on\nread allow\nwrite allow\nopen allow\nclose allow", 6 + 4*3 + 15 + 7 + 5 + 5},
		{"default kill\nx32 on\nread allow if a0 == 5", 6 + 4*3 + 2 + 6 + 4},
		{"default kill\nx32 on\nread allow if a0 & 6 == 4", 6 + 4*3 + 2 + 5 + 5},
		{"default kill\nx32 on\nread allow if a0 & 17179869184 == 0", 6 + 4*3 + 3 + 5},
	} {
		if n := size(itemsOf(t, resolved(t, parsed(t, c.text), systab.Builtin()))); n > c.most {
			t.Errorf("%q: %d instructions, not %d", c.text, n, c.most)
		}
	}
}

// R1: the greatest policy over the greatest table.
func TestGreatest(t *testing.T) {
	var l []systab.Row
	for n := range api.MaxRows {
		r := systab.Row{Name: fmt.Sprintf("n%03d", n), Numbers: [5]int{1<<30 - 1 - n, n, 1000 + n, 2 * n, n}}
		if n < 255 {
			r.Mux, r.Sub = 1+n%2, 255-n
		}
		l = append(l, r)
	}
	p := policy.Policy{Default: act.Action{Kind: 1}, X32: true}
	asked := []cond.Cond{{Op: unequal, Value: 7}, {Op: below, Value: 1<<32 + 1}, {Op: atLeast, Value: 1}, {Op: masked, Mask: 5<<32 + 4}}
	for n, row := range l {
		r := policy.Rule{Name: row.Name, Action: act.Action{Kind: 4, Number: n + 1}}
		for arg := range 6 {
			if row.Mux == 0 {
				c := asked[n%4]
				c.Arg = arg
				r.Conds = append(r.Conds, c)
			}
		}
		p.Rules = append(p.Rules, r)
	}
	items := itemsOf(t, resolved(t, p, l))
	for at, r := range near(l) {
		if at%10 > 0 { // judging takes its time
			continue
		}
		for arg := 1; arg < 6; arg++ {
			r.Args[arg] = []uint64{0, 3, 7, 8}[at/10%4]
		}
		want, _ := model.Judge(p, l, r)
		if code := items.run(t, r); code != want {
			t.Fatalf("%#x: %#x, not %#x", r, code, want)
		}
	}
	p.Rules = nil
	for n := range api.MaxRules {
		p.Rules = append(p.Rules, policy.Rule{Name: "n399", Action: act.Action{Kind: 6, Number: n}, Conds: []cond.Cond{{Op: equal, Value: uint64(n)<<24 + 1}, {Arg: 5, Op: unequal, Value: 1 << 32}}})
	}
	items = itemsOf(t, resolved(t, p, l))
	for n := range uint64(api.MaxRules) {
		items.tells(t, record(x86, 1<<30-400, n<<24+1), 0x7ff00000+uint32(n))
		items.tells(t, record(x86, bit+399, n<<24+1, 0, 0, 0, 0, 1<<32), toKill)
		items.tells(t, record(i386, 1399, n<<24+1, 0, 0, 0, 0, 1<<32), 0x7ff00000+uint32(n%256))
	}
}

// R1: of a plan that was not told nothing is promised; Items ends and does not panic all the same, and has no items of one that it can't do.
func TestNoPlan(t *testing.T) {
	entry := func(n uint32, l ...cond.Cond) resolve.Entry {
		return resolve.Entry{Number: n, Rules: []resolve.Rule{{Conds: l, Code: toAllow}}}
	}
	var long []resolve.Entry
	for n := range uint32(api.MaxInst + 1) {
		long = append(long, entry(n))
	}
	for at, l := range [][]resolve.Entry{
		{entry(3), entry(3)},
		{entry(4), entry(3)},
		long,
		{entry(3, cond.Cond{})},
		{entry(3, cond.Cond{Op: 4, Value: 7})}, // in no normal form
		{entry(3, cond.Cond{Op: 8})},
		{entry(3, cond.Cond{Op: -1})},
		{entry(3, cond.Cond{Op: equal, Arg: 6})},
		{entry(3, cond.Cond{Op: masked, Mask: 1, Arg: -1})},
		{entry(3, cond.Cond{Op: equal, Mask: 1})},
		{entry(1), entry(3, cond.Cond{Op: equal}, cond.Cond{Op: math.MaxInt})},
	} {
		for a := range api.ABIs {
			x := resolve.Plan{Default: toLog, X32: true}
			x.Entries[a] = l
			// Of i386 numbers are put in order, as its multiplexers' are among them.
			if items := gen.Items(x); len(items) > 0 && (at != 1 || a != api.I386) {
				t.Errorf("%d of %d: %s", at, a, brief(items))
			}
		}
	}
	for _, subs := range [][]resolve.Sub{{{Number: 2}, {Number: 2}}, {{Number: 2}, {Number: 1}}} {
		for kind := range 2 {
			x := resolve.Plan{Default: toLog}
			x.Subs[kind] = subs
			if items := gen.Items(x); len(items) > 0 {
				t.Errorf("%d: %s", kind, brief(items))
			}
		}
	}
	x := resolve.Plan{Entries: [5][]resolve.Entry{2: {entry(102)}}, Subs: [2][]resolve.Sub{{{Number: 1}}}}
	if items := gen.Items(x); len(items) > 0 {
		t.Errorf("a multiplexer's number twice: %s", brief(items))
	}
	for _, l := range [][]resolve.Entry{{{Number: 1}}, {entry(1, cond.Cond{Op: masked})}, {{Number: 1, Rules: make([]resolve.Rule, 3)}}} {
		gen.Items(resolve.Plan{Entries: [5][]resolve.Entry{l, nil, l}})
	}
}

// R4, R5: the plan is not changed, the spare room behind its lists' ends neither; items are new memory; what was asked ahead does not count.
func TestNewMemory(t *testing.T) {
	const text = "default kill\nx32 on\nread allow if a0 == 2 and a1 & 3 == 1\nread log\nopen trap if a3 != 5\nconnect log\nsemop log\nwaitpid trap"
	l := systab.Builtin()
	x, same := resolved(t, parsed(t, text), l), resolved(t, parsed(t, text), l)
	for a := range x.Entries { // with room behind
		x.Entries[a] = append(x.Entries[a], same.Entries[0][0])[:len(x.Entries[a])]
	}
	for kind := range x.Subs {
		x.Subs[kind] = append(x.Subs[kind], resolve.Sub{Number: 99, Code: 99})[:len(x.Subs[kind])]
	}
	first := gen.Items(x)
	kept := slices.Clone(first)
	if told := fmt.Sprint(x); told != fmt.Sprint(same) {
		t.Errorf("changed: %s", told)
	}
	for a, own := range x.Entries {
		if behind := own[:len(own)+1][len(own)]; fmt.Sprint(behind) != fmt.Sprint(same.Entries[0][0]) {
			t.Errorf("%d: changed behind: %+v", a, behind)
		}
	}
	for kind, own := range x.Subs {
		if behind := own[:len(own)+1][len(own)]; behind != (resolve.Sub{Number: 99, Code: 99}) {
			t.Errorf("%d: changed behind: %+v", kind, behind)
		}
	}
	clear(first)
	gen.Items(resolve.Plan{Default: 5})
	again := gen.Items(x)
	if !slices.Equal(again, kept) || !slices.Equal(again, gen.Items(same)) {
		t.Error("other items")
	}
	if !gen.Formed(again) || !slices.Equal(again, kept) {
		t.Error("Formed changes items")
	}
	clear(x.Entries[0])
	if !slices.Equal(again, kept) {
		t.Error("items hang on the plan")
	}
}

// P20.1, R3: a plan's lists may be nil, or of length 0.
func TestNone(t *testing.T) {
	x := resolve.Plan{Default: toLog}
	y := resolve.Plan{Default: toLog, Entries: [5][]resolve.Entry{{}, {}, {}, {}, {}}, Subs: [2][]resolve.Sub{{}, {}}}
	if !slices.Equal(gen.Items(x), gen.Items(y)) {
		t.Error("of no entries")
	}
	x.Entries[0] = []resolve.Entry{{Number: 5, Rules: []resolve.Rule{{Code: 1}}}}
	y.Entries[0] = []resolve.Entry{{Number: 5, Rules: []resolve.Rule{{Code: 1, Conds: []cond.Cond{}}}}}
	if !slices.Equal(gen.Items(x), gen.Items(y)) {
		t.Error("of no conditions")
	}
}
