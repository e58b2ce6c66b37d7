package resolve_test

import (
	"fmt"
	"math"
	"slices"
	"strings"
	"testing"

	"strainer/abi"
	"strainer/act"
	"strainer/api"
	"strainer/cond"
	"strainer/data"
	"strainer/model"
	"strainer/mux"
	"strainer/norm"
	"strainer/policy"
	"strainer/resolve"
	"strainer/systab"
	"strainer/valid"
)

const (
	bit    = 0x40000000
	noCall = 0xffffffff
	half   = math.MaxUint32
	most   = math.MaxUint64
)

// The operators.
const (
	equal   = 1
	unequal = 2
	below   = 3
	atMost  = 4
	above   = 5
	atLeast = 6
	masked  = 7
)

// The tokens.
const (
	x86     = 0xc000003e
	i386    = 0x40000003
	arm64   = 0xc00000b7
	riscv64 = 0xc00000f3
)

// Codes of actions.
const (
	toKill  = 0x80000000
	toTrap  = 0x00030000
	toErrno = 0x00050000
	toLog   = 0x7ffc0000
	toAllow = 0x7fff0000
)

// Actions that the tests put.
var (
	kill  = act.Action{Kind: 1}
	trap  = act.Action{Kind: 3}
	log   = act.Action{Kind: 7}
	allow = act.Action{Kind: 8}
)

func errno(n int) act.Action { return act.Action{Kind: 4, Number: n} }

func rule(name string, a act.Action, l ...cond.Cond) policy.Rule {
	return policy.Rule{Name: name, Action: a, Conds: l}
}

// is tells the condition that argument 0 is a value.
func is(value uint64) cond.Cond { return cond.Cond{Op: equal, Value: value} }

// many tells a list of the same thing, so many times.
func many[T any](n int, of T) []T { return slices.Repeat([]T{of}, n) }

// brief tells a thing's beginning.
func brief(a any) string { return fmt.Sprintf("%.600s", fmt.Sprintf("%+v", a)) }

// parsed tells the policy of a text.
func parsed(t *testing.T, text string) policy.Policy {
	t.Helper()
	p, at, e := policy.Parse(text)
	if e != api.OK {
		t.Fatalf("Parse of %q: %d, %d", text, at, e)
	}
	return p
}

// resolved tells the plan of a policy that has one.
func resolved(t *testing.T, p policy.Policy, l []systab.Row) resolve.Plan {
	t.Helper()
	x, at, e := resolve.Resolve(p, l)
	if at != 0 || e != api.OK {
		t.Fatalf("Resolve of %s: %d, %d", brief(p), at, e)
	}
	return x
}

// write tells a plan as a text: what stands in it, list by list.
func write(x resolve.Plan) string {
	text := fmt.Sprintf("%#x %t", x.Default, x.X32)
	for a, l := range x.Entries {
		for _, e := range l {
			text += fmt.Sprintf("; %d: %d", a, e.Number)
			for _, r := range e.Rules {
				var conds []string
				for _, c := range r.Conds {
					conds = append(conds, cond.Text(c))
				}
				text += fmt.Sprintf(", %#x [%s]", r.Code, strings.Join(conds, " and "))
			}
		}
	}
	for kind, l := range x.Subs {
		for _, s := range l {
			text += fmt.Sprintf("; mux %d: %d, %#x", kind+1, s.Number, s.Code)
		}
	}
	return text
}

// plans holds the plan of a text to another one, written.
func plans(t *testing.T, text string, want ...string) {
	t.Helper()
	if told := write(resolved(t, parsed(t, text), systab.Builtin())); told != strings.Join(want, "; ") {
		t.Errorf("Resolve of %q: %s; not %s", text, told, strings.Join(want, "; "))
	}
}

// fails holds Resolve to an error.
func fails(t *testing.T, p policy.Policy, l []systab.Row, want int, fault api.Errno) {
	t.Helper()
	x, at, e := resolve.Resolve(p, l)
	if at != want || e != fault {
		t.Errorf("Resolve of %s: %d, %d; not %d, %d", brief(p), at, e, want, fault)
	}
	if write(x) != write(resolve.Plan{}) {
		t.Errorf("Resolve of %s: %d, and %s", brief(p), e, write(x))
	}
}

// narrows holds Narrow to an answer, of each argument.
func narrows(t *testing.T, c, want cond.Cond, s norm.State) {
	t.Helper()
	for arg := range 6 {
		c.Arg = arg
		if s == norm.Asks {
			want.Arg = arg
		}
		if n, told := resolve.Narrow(c); n != want || told != s {
			t.Errorf("Narrow of %+v: %+v, %d; not %+v, %d", c, n, told, want, s)
		}
	}
}

// P18.1: of a value above 2^32 - 1 ==, >= and a masked one never hold, != and < always.
func TestNarrowAbove(t *testing.T) {
	for _, v := range []uint64{half + 1, half + 2, 1 << 33, 5<<32 + 7, math.MaxInt64, 1 << 63, most - 1, most} {
		narrows(t, cond.Cond{Op: equal, Value: v}, cond.Cond{}, norm.Never)
		narrows(t, cond.Cond{Op: unequal, Value: v}, cond.Cond{}, norm.Always)
		narrows(t, cond.Cond{Op: below, Value: v}, cond.Cond{}, norm.Always)
		if v < most {
			narrows(t, cond.Cond{Op: atLeast, Value: v}, cond.Cond{}, norm.Never)
			narrows(t, cond.Cond{Op: masked, Mask: v, Value: v}, cond.Cond{}, norm.Never)
			narrows(t, cond.Cond{Op: masked, Mask: v | half>>1, Value: v}, cond.Cond{}, norm.Never)
		}
	}
	narrows(t, cond.Cond{Op: masked, Mask: 1<<32 + 1, Value: 1 << 32}, cond.Cond{}, norm.Never)
	narrows(t, cond.Cond{Op: masked, Mask: most - 1, Value: 1<<63 + 4}, cond.Cond{}, norm.Never)
}

// P18.1: of any other value conditions stay as they are.
func TestNarrowStays(t *testing.T) {
	for _, v := range []uint64{0, 1, 2, 3, 1 << 16, math.MaxInt32, 1 << 31, half - 1, half} {
		for _, op := range []int{equal, unequal, below, atLeast} {
			c := cond.Cond{Op: op, Value: v}
			if n, s := norm.Cond(c); n == c && s == norm.Asks {
				narrows(t, c, c, norm.Asks)
			}
		}
		narrows(t, cond.Cond{Op: masked, Mask: v | 1, Value: v}, cond.Cond{Op: masked, Mask: v | 1, Value: v}, norm.Asks)
		narrows(t, cond.Cond{Op: masked, Mask: half, Value: v}, cond.Cond{Op: masked, Mask: half, Value: v}, norm.Asks)
	}
}

// P18.1: a mask is cut to its lower half, and one of 0 always holds.
func TestNarrowMask(t *testing.T) {
	for _, c := range []struct{ mask, value, cut uint64 }{
		{1<<32 + 6, 4, 6},
		{1<<32 + 6, 0, 6},
		{1<<63 + 1, 1, 1},
		{1<<63 + 1, 0, 1},
		{most - 1, 2, half - 1},
		{most >> 1, half, half},
		{half<<32 + 1<<31, 1 << 31, 1 << 31},
		{5<<32 + half, 0, half},
		{half, half, half},
		{1, 1, 1},
		{1, 0, 1},
	} {
		narrows(t, cond.Cond{Op: masked, Mask: c.mask, Value: c.value}, cond.Cond{Op: masked, Mask: c.cut, Value: c.value}, norm.Asks)
	}
	for _, mask := range []uint64{1 << 32, 3 << 32, 1 << 63, half << 32} {
		narrows(t, cond.Cond{Op: masked, Mask: mask}, cond.Cond{}, norm.Always)
	}
}

// values tells few values, on both sides of each border.
func values() []uint64 {
	return []uint64{0, 1, 2, 3, 9, half - 1, half, half + 1, half + 2, half + 4, 1 << 63, 1<<63 + 1, most - 1, most}
}

// P18.1, P18.2: what is told holds of lower halves as the condition does; of one that is in no normal form, or that may not be, too (R1).
func TestNarrowHolds(t *testing.T) {
	for _, c := range conds() {
		n, s := resolve.Narrow(c)
		if s != norm.Asks && n != (cond.Cond{}) || s == norm.Asks && !cond.Right(n) {
			t.Errorf("Narrow of %+v: %+v, %d", c, n, s)
		}
		for _, v := range values() {
			args := [6]uint64{v & half, v & half, v & half, v & half, v & half, v & half}
			if holds := s == norm.Always || s == norm.Asks && cond.Holds(n, args); holds != cond.Holds(c, args) {
				t.Errorf("Narrow of %+v: %+v, %d; of %d %t", c, n, s, v&half, holds)
			}
		}
	}
}

// conds tells conditions of all operators, and some that are of none.
func conds() []cond.Cond {
	l := []cond.Cond{{}, {Op: 8, Value: 1}, {Op: -1}, {Arg: 6, Op: 1}, {Arg: -1, Op: 1}, {Op: 1, Mask: 1}, {Op: 3, Mask: 1, Value: 1 << 40}}
	for _, v := range values() {
		for op := equal; op < masked; op++ {
			l = append(l, cond.Cond{Arg: op % 6, Op: op, Value: v})
		}
		for _, m := range values() {
			l = append(l, cond.Cond{Arg: 5, Op: masked, Mask: m, Value: v}, cond.Cond{Op: masked, Mask: m, Value: v & m})
		}
	}
	return l
}

// P18.1: the document's example.
func TestExample(t *testing.T) {
	plans(t, "default kill\nread allow", "0x80000000 false", "0: 0, 0x7fff0000 []", "2: 3, 0x7fff0000 []", "3: 63, 0x7fff0000 []", "4: 63, 0x7fff0000 []")
}

// P18.1: the default, and whether x32 is let in; then alone it has entries, with the bit.
func TestX32(t *testing.T) {
	plans(t, "default kill", "0x80000000 false")
	plans(t, "default errno 38\nx32 on", "0x50026 true")
	plans(t, "default kill_thread\nx32 off", "0x0 false")
	plans(t, "default kill\nx32 on\nexecve log if a5 < 7\nread allow", "0x80000000 true",
		"0: 0, 0x7fff0000 []", "0: 59, 0x7ffc0000 [a5 < 7]",
		"1: 1073741824, 0x7fff0000 []", "1: 1073742344, 0x7ffc0000 [a5 < 7]",
		"2: 3, 0x7fff0000 []", "2: 11, 0x7ffc0000 [a5 < 7]",
		"3: 63, 0x7fff0000 []", "3: 221, 0x7ffc0000 [a5 < 7]",
		"4: 63, 0x7fff0000 []", "4: 221, 0x7ffc0000 [a5 < 7]")
}

// P18.1: there is no entry in an ABI from which the name is absent; entries rise by number, not by name.
func TestNumbers(t *testing.T) {
	plans(t, "default kill\nx32 on\nwaitpid trap\nriscv_flush_icache log\nopen allow\nmmap2 errno 7\ngetuid allow\nclose log", "0x80000000 true",
		"0: 2, 0x7fff0000 []", "0: 3, 0x7ffc0000 []", "0: 102, 0x7fff0000 []",
		"1: 1073741826, 0x7fff0000 []", "1: 1073741827, 0x7ffc0000 []", "1: 1073741926, 0x7fff0000 []",
		"2: 5, 0x7fff0000 []", "2: 6, 0x7ffc0000 []", "2: 7, 0x30000 []", "2: 24, 0x7fff0000 []", "2: 192, 0x50007 []",
		"3: 57, 0x7ffc0000 []", "3: 174, 0x7fff0000 []",
		"4: 57, 0x7ffc0000 []", "4: 174, 0x7fff0000 []", "4: 259, 0x7ffc0000 []")
}

// P18.1: a name with a number of a multiplexer has a sub, too; subs rise by number, each multiplexer's by themselves.
func TestSubs(t *testing.T) {
	plans(t, "default kill\nsend log\naccept allow\nconnect errno 5\nshmat trap\nsemop allow\nsemget log\nsocket kill", "0x80000000 false",
		"0: 30, 0x30000 []", "0: 42, 0x50005 []", "0: 43, 0x7fff0000 []", "0: 64, 0x7ffc0000 []", "0: 65, 0x7fff0000 []",
		"2: 362, 0x50005 []", "2: 393, 0x7ffc0000 []", "2: 397, 0x30000 []",
		"3: 190, 0x7ffc0000 []", "3: 193, 0x7fff0000 []", "3: 196, 0x30000 []", "3: 202, 0x7fff0000 []", "3: 203, 0x50005 []",
		"4: 190, 0x7ffc0000 []", "4: 193, 0x7fff0000 []", "4: 196, 0x30000 []", "4: 202, 0x7fff0000 []", "4: 203, 0x50005 []",
		"mux 1: 3, 0x50005", "mux 1: 5, 0x7fff0000", "mux 1: 9, 0x7ffc0000",
		"mux 2: 1, 0x7fff0000", "mux 2: 2, 0x7ffc0000", "mux 2: 21, 0x30000")
}

// P18.1: rules are those of the normal form; a name that has none there has no entry.
func TestNormal(t *testing.T) {
	plans(t, "default kill\nopen log if a2 > 4 and a0 <= 0 and a1 >= 0\nopen kill if a0 == 1\nopen allow\nmkdir trap if a0 > 18446744073709551615\nmkdir kill\nrename kill\nconnect kill\nwaitpid log if a0 == 2 and a0 == 2 and a0 == 1", "0x80000000 false",
		"0: 2, 0x7ffc0000 [a0 == 0 and a2 >= 5], 0x80000000 [a0 == 1], 0x7fff0000 []",
		"2: 5, 0x7ffc0000 [a0 == 0 and a2 >= 5], 0x80000000 [a0 == 1], 0x7fff0000 []",
		"2: 7, 0x7ffc0000 [a0 == 1 and a0 == 2]")
}

// P18.1: of i386 conditions that always hold are left out, rules with one that never holds, too; of the other ABIs they stay.
func TestI386(t *testing.T) {
	plans(t, "default kill\nread log if a0 == 4294967296\nread trap if a0 != 4294967296 and a1 == 4294967295 and a2 < 4294967297\nread allow if a0 & 4294967297 == 1 and a1 & 4294967296 == 0", "0x80000000 false",
		"0: 0, 0x7ffc0000 [a0 == 4294967296], 0x30000 [a0 != 4294967296 and a1 == 4294967295 and a2 < 4294967297], 0x7fff0000 [a0 & 4294967297 == 1 and a1 & 4294967296 == 0]",
		"2: 3, 0x30000 [a1 == 4294967295], 0x7fff0000 [a0 & 1 == 1]",
		"3: 63, 0x7ffc0000 [a0 == 4294967296], 0x30000 [a0 != 4294967296 and a1 == 4294967295 and a2 < 4294967297], 0x7fff0000 [a0 & 4294967297 == 1 and a1 & 4294967296 == 0]",
		"4: 63, 0x7ffc0000 [a0 == 4294967296], 0x30000 [a0 != 4294967296 and a1 == 4294967295 and a2 < 4294967297], 0x7fff0000 [a0 & 4294967297 == 1 and a1 & 4294967296 == 0]")
}

// P18.1: of i386 all rules behind one without conditions, and the last ones with the default's code, are left out; an entry without rules is none.
func TestI386Needed(t *testing.T) {
	for _, c := range []struct{ rules, want string }{
		{"waitpid log if a0 < 4294967296\nwaitpid trap if a0 == 4294967296\nwaitpid allow if a1 == 5\nwaitpid errno 9", "; 2: 7, 0x7ffc0000 []"},
		{"waitpid trap if a0 == 1\nwaitpid log if a0 < 4294967296\nwaitpid allow if a1 == 5", "; 2: 7, 0x30000 [a0 == 1], 0x7ffc0000 []"},
		// Behind the rule without conditions there may be others than the default's.
		{"waitpid trap if a0 == 1\nwaitpid kill if a0 < 4294967296\nwaitpid allow if a1 == 5", "; 2: 7, 0x30000 [a0 == 1]"},
		{"waitpid kill if a0 < 4294967296\nwaitpid allow if a1 == 5", ""},
		{"waitpid kill if a0 == 1\nwaitpid kill if a0 < 4294967296\nwaitpid allow if a1 == 5", ""},
		{"waitpid kill if a0 == 1\nwaitpid trap if a0 == 2\nwaitpid kill if a0 == 3\nwaitpid kill if a0 == 4\nwaitpid log if a0 >= 4294967296", "; 2: 7, 0x80000000 [a0 == 1], 0x30000 [a0 == 2]"},
		{"waitpid log if a0 == 4294967296\nwaitpid trap if a1 & 4294967297 == 4294967297", ""},
		{"waitpid kill if a0 == 1\nwaitpid trap if a1 >= 4294967296", ""},
		{"waitpid kill if a0 == 1\nwaitpid allow if a0 != 2", "; 2: 7, 0x80000000 [a0 == 1], 0x7fff0000 [a0 != 2]"},
		// Conditions that have come to be the same stay, in a rule and in two.
		{"waitpid log if a0 & 1 == 1 and a0 & 4294967297 == 1\nwaitpid trap if a0 & 8589934593 == 1", "; 2: 7, 0x7ffc0000 [a0 & 1 == 1 and a0 & 1 == 1], 0x30000 [a0 & 1 == 1]"},
	} {
		plans(t, "default kill\n"+c.rules, "0x80000000 false"+c.want)
	}
	// Actions of one kind are not the same ones, if their numbers are not.
	plans(t, "default errno 1\nwaitpid errno 2 if a0 == 1\nwaitpid errno 1 if a0 < 4294967296\nwaitpid log if a0 == 5", "0x50001 false", "2: 7, 0x50002 [a0 == 1]")
	// The other ABIs have theirs all the same.
	plans(t, "default kill\nstat log if a0 == 4294967296", "0x80000000 false", "0: 4, 0x7ffc0000 [a0 == 4294967296]")
}

// P18.1: layer 15's error, and its rule.
func TestNotValid(t *testing.T) {
	l := systab.Builtin()
	for _, c := range []struct {
		p     policy.Policy
		at    int
		fault api.Errno
	}{
		{policy.Policy{}, 0, api.ErrForm},
		{policy.Policy{Default: kill, Rules: []policy.Rule{rule("read", allow), rule("READ", allow)}}, 0, api.ErrForm},
		{policy.Policy{Default: kill, Rules: []policy.Rule{rule("read", allow), rule("write", allow, cond.Cond{})}}, 0, api.ErrForm},
		{policy.Policy{Default: kill, Rules: many(501, rule("read", allow))}, 0, api.ErrForm},
		{parsed(t, "default kill\nread allow\nnope allow"), 1, api.ErrName},
		{parsed(t, "default kill\nread allow\nwrite log\nopen log if a0 & 1 == 2"), 2, api.ErrRange},
		{parsed(t, "default kill\nwrite log if a0 == 1\nread allow\nwrite log if a0 == 1"), 2, api.ErrTwice},
		{parsed(t, "default kill\nread allow\nread kill"), 1, api.ErrTwice},
	} {
		fails(t, c.p, l, c.at, c.fault)
		x, e := valid.Check(c.p, l)
		if x != c.at || e != c.fault {
			t.Errorf("Check of %s: %d, %d", brief(c.p), x, e)
		}
	}
	turned := []systab.Row{l[1], l[0]}
	fails(t, parsed(t, "default kill\nconnect log if a0 == 1"), turned, 0, api.ErrState)
	fails(t, policy.Policy{}, turned, 0, api.ErrForm)
	fails(t, parsed(t, "default kill\nread log"), nil, 0, api.ErrName)
	fails(t, parsed(t, "default kill\nread log"), []systab.Row{}, 0, api.ErrName)
}

// P18.1: conditions for a name with a number of a multiplexer are refused, whatever they ask, and whether or not i386 has it as a number.
func TestMux(t *testing.T) {
	l := systab.Builtin()
	for _, r := range l {
		for _, c := range []cond.Cond{is(1), {Op: atLeast}, {Op: below}, {Op: equal, Value: 1 << 32}, {Op: masked}} {
			p := policy.Policy{Default: kill, Rules: []policy.Rule{rule("uname", log, is(1)), rule(r.Name, kill, c)}}
			if r.Mux == 0 {
				if r.Name != "uname" {
					resolved(t, p, l)
				}
				continue
			}
			fails(t, p, l, 1, api.ErrMux)
			p.Rules[1].Conds = nil
			resolved(t, p, l)
		}
	}
	fails(t, parsed(t, "default kill\naccept allow if a0 >= 0"), l, 0, api.ErrMux)
	fails(t, parsed(t, "default kill\nread allow\nconnect allow\nsend log if a0 == 1\nsendto log if a0 == 1"), l, 2, api.ErrMux)
	fails(t, parsed(t, "default kill\nconnect allow if a0 == 1\nconnect log"), l, 0, api.ErrMux)
}

// P18.1, R2: layer 15's error of any rule counts ahead of a multiplexer's of an earlier one.
func TestMuxBehind(t *testing.T) {
	l := systab.Builtin()
	fails(t, parsed(t, "default kill\nconnect allow if a0 == 1\nnope allow"), l, 1, api.ErrName)
	fails(t, parsed(t, "default kill\nconnect allow if a0 == 1\nread allow if a0 & 0 == 1"), l, 1, api.ErrRange)
	fails(t, parsed(t, "default kill\nconnect allow\nread log\nconnect allow if a0 == 1"), l, 2, api.ErrTwice)
	fails(t, parsed(t, "default kill\nread log\nconnect allow if a0 & 1 == 2"), l, 1, api.ErrRange)
}

// row tells one that is absent everywhere.
func row(name string) systab.Row { return systab.Row{Name: name, Numbers: [5]int{-1, -1, -1, -1, -1}} }

// P18.1: numbers and multiplexers are those of the table that is handed in.
func TestTable(t *testing.T) {
	a, b, c := row("a"), row("b"), row("c")
	a.Numbers = [5]int{1<<30 - 1, 1<<30 - 1, 1<<30 - 1, 7, 0}
	b.Numbers, b.Mux, b.Sub = [5]int{0, 0, 0, -1, 1}, 2, 255
	c.Mux, c.Sub = 1, 255
	for _, l := range [][]systab.Row{{a, b, c}, {a, b, c, row("d"), row("read")}} {
		p := policy.Policy{Default: log, X32: true, Rules: []policy.Rule{rule("c", allow), rule("b", kill), rule("a", trap, is(5))}}
		want := "0x7ffc0000 true; 0: 0, 0x80000000 []; 0: 1073741823, 0x30000 [a0 == 5]; 1: 1073741824, 0x80000000 []; 1: 2147483647, 0x30000 [a0 == 5]; 2: 0, 0x80000000 []; 2: 1073741823, 0x30000 [a0 == 5]; 3: 7, 0x30000 [a0 == 5]; 4: 0, 0x30000 [a0 == 5]; 4: 1, 0x80000000 []; mux 1: 255, 0x7fff0000; mux 2: 255, 0x80000000"
		if told := write(resolved(t, p, l)); told != want {
			t.Errorf("%s; not %s", told, want)
		}
	}
	// A name that is absent everywhere may have rules, which lead to nothing.
	if told := write(resolved(t, policy.Policy{Default: log, Rules: []policy.Rule{rule("d", kill)}}, []systab.Row{row("d")})); told != "0x7ffc0000 false" {
		t.Error(told)
	}
	for _, none := range [][]systab.Row{nil, {}} {
		if told := write(resolved(t, policy.Policy{Default: log}, none)); told != "0x7ffc0000 false" {
			t.Error(told)
		}
	}
}

// chance tells numbers that are the same each time.
type chance uint64

func (c *chance) below(n int) int {
	*c = *c*6364136223846793005 + 1442695040888963407
	mixed := uint64(*c>>32) ^ uint64(*c>>47)
	return int((mixed * 0x9e3779b97f4a7c15 >> 33) % uint64(n))
}

// common tells names of the built-in table, of all kinds: in all ABIs, in some, and with a multiplexer, too, or alone.
func common() []string {
	return []string{"accept", "connect", "execve", "getuid", "mmap2", "msgget", "open", "ptrace", "read", "riscv_flush_icache", "semop", "send"}
}

// fewRows tells the built-in table's rows of these names: asked so often, all of it takes its time.
func fewRows() []systab.Row {
	return slices.DeleteFunc(systab.Builtin(), func(r systab.Row) bool { return !slices.Contains(common(), r.Name) })
}

// cond tells a right condition.
func (c *chance) cond() cond.Cond {
	few := values()
	d := cond.Cond{Arg: c.below(2), Op: 1 + c.below(7), Value: few[c.below(len(few))]}
	if d.Op == masked {
		d.Mask = few[c.below(len(few))]
		d.Value &= d.Mask
	}
	return d
}

// policy tells one that may be, and that is often valid: its names are few, seldom with conditions if they have a multiplexer.
func (c *chance) policy(l []systab.Row) policy.Policy {
	actions := []act.Action{kill, trap, errno(1), errno(2), log, allow, {Kind: 2}}
	p := policy.Policy{Default: actions[c.below(7)], X32: c.below(2) == 0}
	for range c.below(14) {
		row := l[c.below(len(l))]
		r := rule(row.Name, actions[c.below(7)])
		if c.below(3) == 0 {
			r.Action = p.Default
		}
		for range c.below(4) {
			if row.Mux == 0 || c.below(40) == 0 {
				r.Conds = append(r.Conds, c.cond())
			}
		}
		twice := slices.ContainsFunc(p.Rules, func(o policy.Rule) bool { return o.Name == r.Name })
		if twice && row.Mux != 0 && c.below(20) > 0 {
			continue
		}
		p.Rules = append(p.Rules, r)
	}
	return p
}

// number tells one of a row, or near one, or any.
func (c *chance) number(l []systab.Row) uint32 {
	switch c.below(10) {
	case 0:
		return []uint32{0, 999, bit - 1, bit, 2 * bit, 3 * bit, noCall, noCall - 1, noCall - 3}[c.below(9)]
	case 1, 2, 3:
		return []uint32{102, 117, bit + 102, bit + 117}[c.below(4)]
	}
	n := uint32(l[c.below(len(l))].Numbers[c.below(5)])
	if c.below(3) == 0 {
		n |= bit
	}
	return n
}

// record tells one of a token, seldom of none.
func (c *chance) record(l []systab.Row) data.Record {
	archs := []uint32{x86, x86, x86, i386, i386, i386, arm64, riscv64}
	r := data.Record{Arch: archs[c.below(8)], Number: c.number(l)}
	if c.below(30) == 0 {
		r.Arch = uint32(c.below(1 << 30))
	}
	r.Pointer = uint64(c.below(1 << 30))
	for at := range r.Args {
		r.Args[at] = values()[c.below(len(values()))]
		if c.below(2) == 0 {
			r.Args[at] = uint64([]int{1, 3, 5, 9, 13}[c.below(5)] + c.below(2)<<32)
		}
	}
	return r
}

// toldCond tells what a condition in normal form is of i386 (1: it always holds, 2: never), word by word from the document.
func toldCond(c cond.Cond) (cond.Cond, int) {
	if c.Value >= 1<<32 {
		return cond.Cond{}, map[int]int{equal: 2, atLeast: 2, masked: 2, unequal: 1, below: 1}[c.Op]
	}
	if c.Op == masked {
		c.Mask %= 1 << 32
		if c.Mask == 0 {
			return cond.Cond{}, 1
		}
	}
	return c, 0
}

// toldRules tells a name's rules of i386.
func toldRules(l []resolve.Rule, other uint32) []resolve.Rule {
	var kept []resolve.Rule
rules:
	for _, r := range l {
		n := resolve.Rule{Code: r.Code}
		for _, c := range r.Conds {
			d, s := toldCond(c)
			if s == 2 {
				continue rules
			}
			if s == 0 {
				n.Conds = append(n.Conds, d)
			}
		}
		kept = append(kept, n)
		if len(n.Conds) == 0 {
			break
		}
	}
	for n := len(kept); n > 0 && kept[n-1].Code == other; n-- {
		kept = kept[:n-1]
	}
	return kept
}

// told tells a plan as Resolve ought to, row by row: each number is looked for among all that there may be, from below.
func told(p policy.Policy, l []systab.Row) (x resolve.Plan) {
	n, _ := norm.Policy(p)
	x.Default, _ = act.Code(p.Default)
	x.X32 = p.X32
	byName := map[string][]resolve.Rule{}
	for _, r := range n.Rules {
		code, _ := act.Code(r.Action)
		byName[r.Name] = append(byName[r.Name], resolve.Rule{Conds: r.Conds, Code: code})
	}
	for number := range 1100 {
		for _, row := range l {
			rules := byName[row.Name]
			for a := range 5 {
				own := rules
				if a == 2 {
					own = toldRules(rules, x.Default)
				}
				if row.Numbers[a] != number || len(own) == 0 || a == 1 && !p.X32 {
					continue
				}
				x.Entries[a] = append(x.Entries[a], resolve.Entry{Number: uint32(number + []int{0, bit, 0, 0, 0}[a]), Rules: own})
			}
			for kind := 1; kind <= 2; kind++ {
				if row.Mux == kind && row.Sub == number && len(rules) > 0 {
					x.Subs[kind-1] = append(x.Subs[kind-1], resolve.Sub{Number: uint32(number), Code: rules[0].Code})
				}
			}
		}
	}
	return x
}

// fault tells what is wrong of a policy, by layers 15 and 11 alone.
func fault(p policy.Policy, l []systab.Row) (int, api.Errno) {
	if at, e := valid.Check(p, l); e != api.OK {
		return at, e
	}
	for at, r := range p.Rules {
		for _, row := range l {
			if row.Name == r.Name && row.Mux > 0 && len(r.Conds) > 0 {
				return at, api.ErrMux
			}
		}
	}
	return 0, api.OK
}

// P18.1: over many policies, held against a second telling of the document's words.
func TestManyPolicies(t *testing.T) {
	var c chance
	l := fewRows()
	met := map[api.Errno]int{}
	for range 4000 {
		p := c.policy(l)
		at, e := fault(p, l)
		met[e]++
		if e != api.OK {
			fails(t, p, l, at, e)
			continue
		}
		if x, want := write(resolved(t, p, l)), write(told(p, l)); x != want {
			t.Fatalf("Resolve of %s: %s; not %s", brief(p), x, want)
		}
	}
	if met[api.OK] < 500 || met[api.ErrMux] < 100 || met[api.ErrTwice] < 100 {
		t.Errorf("errors: %v", met)
	}
}

// byPlan tells a record's code by a plan (P18.2), and by what it is told.
func byPlan(x resolve.Plan, r data.Record) (uint32, string) {
	a, some := abi.Select(r.Arch, r.Number)
	switch kind := mux.Kind(r.Number); {
	case !some, a == api.X32 && !x.X32:
		return toKill, "kill"
	case a == api.I386 && kind > 0:
		for _, s := range x.Subs[kind-1] {
			if s.Number == uint32(r.Args[0]) {
				return s.Code, "sub"
			}
		}
		return x.Default, "no sub"
	}
	for _, e := range x.Entries[a] {
		if e.Number != r.Number {
			continue
		}
		for _, own := range e.Rules {
			if cond.All(own.Conds, abi.Args(a, r)) {
				return own.Code, "entry"
			}
		}
		return x.Default, "no rule"
	}
	return x.Default, "no entry"
}

// P18.2: a record's code by the plan is that which the policy judges.
func TestJudges(t *testing.T) {
	c, l := chance(1), fewRows()
	met := map[string]int{}
	for range 5000 {
		p := c.policy(l)
		x, _, e := resolve.Resolve(p, l)
		if e != api.OK {
			continue
		}
		for range 40 {
			r := c.record(l)
			want, _ := model.Judge(p, l, r)
			told, by := byPlan(x, r)
			if told != want {
				t.Fatalf("%#x, by %s, of %s: %#x (%s), not %#x", r, brief(p), write(x), told, by, want)
			}
			met[by]++
		}
	}
	for _, by := range []string{"kill", "sub", "no sub", "entry", "no rule", "no entry"} {
		if met[by] < 500 {
			t.Errorf("by %s: %d records", by, met[by])
		}
	}
}

// P18.2: of all numbers of the built-in table, and of their neighbours, in all ABIs.
func TestJudgesAll(t *testing.T) {
	l := systab.Builtin()
	text := "\nx32 on"
	for at, r := range l {
		text += fmt.Sprintf("\n%s errno %d", r.Name, at+1)
		if r.Mux == 0 {
			text += fmt.Sprintf(" if a1 < 4294967297\n%s trace %d if a2 & 12884901889 == 1", r.Name, at+1)
		}
	}
	for _, text := range []string{"default kill" + text, "default errno 3\nx32 off" + strings.TrimPrefix(text, "\nx32 on")} {
		p := parsed(t, text)
		x := resolved(t, p, l)
		for _, r := range near(l) {
			want, _ := model.Judge(p, l, r)
			if told, by := byPlan(x, r); told != want {
				t.Fatalf("%#x: %#x (%s), not %#x", r, told, by, want)
			}
		}
	}
}

// near tells records of each number of a table, and of its neighbour, each with several arguments; and all of the multiplexers.
func near(l []systab.Row) []data.Record {
	var all []data.Record
	for _, r := range l {
		for a, arch := range []uint32{x86, x86, i386, arm64, riscv64} {
			n := uint32(r.Numbers[a])
			if a == api.X32 {
				n |= bit
			}
			for _, args := range [][6]uint64{{3}, {0, 1<<32 + 1, 1}, {0, most, 1 << 32}} {
				all = append(all, data.Record{Arch: arch, Number: n, Args: args}, data.Record{Arch: arch, Number: n + 1, Args: args})
			}
		}
	}
	for n := range uint64(30) {
		for _, number := range []uint32{102, 117} {
			all = append(all, data.Record{Arch: i386, Number: number, Args: [6]uint64{n}}, data.Record{Arch: i386, Number: number, Args: [6]uint64{n<<32 + n}})
		}
	}
	return all
}

// R1: the greatest policy over the greatest table.
func TestGreatest(t *testing.T) {
	var l []systab.Row
	for n := range api.MaxRows {
		r := systab.Row{Name: fmt.Sprintf("n%03d", n), Numbers: [5]int{1<<30 - 1 - n, n, 1000 + n, 2 * n, n}}
		if n < 255 {
			r.Mux, r.Sub = 1+n%2, 255-n
		}
		l = append(l, r)
	}
	p := policy.Policy{Default: kill, X32: true}
	for n := range api.MaxRows {
		p.Rules = append(p.Rules, rule(l[api.MaxRows-1-n].Name, errno(n+1)))
	}
	x := resolved(t, p, l)
	for a, want := range []uint32{1<<30 - 400, bit, 1000, 0, 0} {
		own := x.Entries[a]
		if len(own) != api.MaxRows || own[0].Number != want || !slices.IsSortedFunc(own, func(a, b resolve.Entry) int { return int(a.Number) - int(b.Number) }) {
			t.Errorf("%d: %d entries: %s", a, len(own), brief(own))
		}
	}
	if len(x.Subs[0]) != 128 || len(x.Subs[1]) != 127 || x.Subs[0][0] != (resolve.Sub{Number: 1, Code: toErrno + 146}) || x.Subs[1][126] != (resolve.Sub{Number: 254, Code: toErrno + 399}) {
		t.Errorf("subs: %+v", x.Subs)
	}
	p.Rules = nil
	for n := range api.MaxRules {
		p.Rules = append(p.Rules, rule("n399", log, cond.Cond{Op: equal, Value: uint64(n)<<24 + 1}, cond.Cond{Arg: 5, Op: unequal, Value: 1 << 32}))
	}
	x = resolved(t, p, l)
	if len(x.Entries[0][0].Rules) != 500 || len(x.Entries[2][0].Rules) != 256 {
		t.Errorf("%d, %d rules", len(x.Entries[0][0].Rules), len(x.Entries[2][0].Rules))
	}
}

// R4: neither the policy nor the table is changed, the spare room behind their lists' ends neither.
func TestUnchanged(t *testing.T) {
	conds := []cond.Cond{{Arg: 3, Op: masked, Mask: 1<<32 + 1, Value: 1}, is(2), {Op: atMost, Value: 9}, is(9)}
	rules := []policy.Rule{rule("write", allow, conds[:3]...), rule("read", kill), rule("connect", log), rule("open", allow), rule("nobody", trap)}
	was := slices.Clone(rules)
	was[0].Conds = slices.Clone(conds[:3])
	table := append(systab.Builtin(), row("z"))
	p := policy.Policy{Default: kill, Rules: rules[:3]}
	first := write(resolved(t, p, table[:83]))
	if !policy.Same(policy.Policy{Rules: rules}, policy.Policy{Rules: was}) || !slices.Equal(conds, []cond.Cond{{Arg: 3, Op: masked, Mask: 1<<32 + 1, Value: 1}, is(2), {Op: atMost, Value: 9}, is(9)}) {
		t.Errorf("changed: %+v, %+v", rules, conds)
	}
	if !slices.Equal(table, append(systab.Builtin(), row("z"))) {
		t.Error("another table")
	}
	// What was asked ahead does not count (R5).
	fails(t, policy.Policy{Default: kill, Rules: rules}, table[:83], 4, api.ErrName)
	resolved(t, parsed(t, "default log\nopen trap"), systab.Builtin())
	if again := write(resolved(t, p, table[:83])); again != first {
		t.Errorf("%s; then %s", first, again)
	}
}

// fresh tells a policy whose lists no one else has.
func fresh() policy.Policy {
	return policy.Policy{Default: kill, X32: true, Rules: []policy.Rule{rule("read", allow, is(2), is(3)), rule("read", log, is(4)), rule("open", trap, is(5)), rule("connect", log), rule("semop", log), rule("bind", trap)}}
}

// R4: what is handed out is new memory, and no two of its lists share any.
func TestNewMemory(t *testing.T) {
	l := systab.Builtin()
	want := resolved(t, fresh(), l)
	p := fresh()
	x := resolved(t, p, l)
	if write(x) != write(want) {
		t.Fatalf("%s; not %s", write(x), write(want))
	}
	odd := cond.Cond{Arg: 5, Op: masked, Mask: 9, Value: 9}
	for _, r := range p.Rules {
		for at := range r.Conds {
			r.Conds[at] = odd
		}
	}
	if write(x) != write(want) {
		t.Error("the plan has the policy's conditions")
	}
	again := resolved(t, fresh(), l)
	for a := range x.Entries {
		for at, e := range x.Entries[a] {
			for n, r := range e.Rules {
				for i := range r.Conds {
					was := r.Conds[i]
					r.Conds[i] = odd
					if write(again) != write(want) || changes(x, want) != 1 {
						t.Errorf("%d, %d, %d: conditions are shared", a, at, n)
					}
					r.Conds[i] = was
				}
				// Nor does a list grow into another one.
				_ = append(r.Conds, odd)
				_ = append(e.Rules, resolve.Rule{Conds: []cond.Cond{odd}})
			}
		}
		_ = append(x.Entries[a], resolve.Entry{Number: 7})
	}
	if write(x) != write(want) {
		t.Error("lists share their room")
	}
	x.Entries[0][0].Rules[0].Code = 1
	if changes(x, want) != 1 {
		t.Error("rules are shared")
	}
}

// changes counts the rules of two plans of as many entries that are not the same.
func changes(x, y resolve.Plan) int {
	n := 0
	for a := range x.Entries {
		for at, e := range x.Entries[a] {
			for i, r := range e.Rules {
				own := y.Entries[a][at].Rules[i]
				if r.Code != own.Code || !slices.Equal(r.Conds, own.Conds) {
					n++
				}
			}
		}
	}
	return n
}

// P18.1, R3: conditions that are no list, or one of none, are the same.
func TestNone(t *testing.T) {
	l := systab.Builtin()
	a := policy.Policy{Default: kill, Rules: []policy.Rule{{Name: "connect", Action: log}, {Name: "read", Action: allow}}}
	b := policy.Policy{Default: kill, Rules: []policy.Rule{{Name: "connect", Action: log, Conds: []cond.Cond{}}, {Name: "read", Action: allow, Conds: []cond.Cond{}}}}
	if x, y := write(resolved(t, a, l)), write(resolved(t, b, l)); x != y {
		t.Errorf("%s; %s", x, y)
	}
	if x, y := write(resolved(t, policy.Policy{Default: log}, l)), write(resolved(t, policy.Policy{Default: log, Rules: []policy.Rule{}}, l)); x != y {
		t.Errorf("%s; %s", x, y)
	}
}

// P18.2: policies that are the same but for the order of rules of different names, and a policy and its normal form, have one plan.
func TestOnePlan(t *testing.T) {
	l := systab.Builtin()
	a := resolved(t, parsed(t, "default kill\nread log if a0 <= 4 and a1 == 1\nopen allow\nread trap\nconnect log"), l)
	b := resolved(t, parsed(t, "default kill\nconnect log\nread log if a1 == 1 and a0 < 5\nread trap\nopen allow"), l)
	if write(a) != write(b) {
		t.Errorf("%s; %s", write(a), write(b))
	}
	c, few := chance(2), fewRows()
	for range 500 {
		p := c.policy(few)
		if _, e := fault(p, few); e != api.OK {
			continue
		}
		n, _ := norm.Policy(p)
		if x, y := write(resolved(t, p, few)), write(resolved(t, n, few)); x != y {
			t.Fatalf("%s: %s; %s", brief(p), x, y)
		}
	}
}
