package model_test

import (
	"fmt"
	"math"
	"slices"
	"testing"

	"strainer/act"
	"strainer/api"
	"strainer/cond"
	"strainer/data"
	"strainer/model"
	"strainer/norm"
	"strainer/policy"
	"strainer/systab"
	"strainer/valid"
)

const (
	bit    = 0x40000000
	noCall = 0xffffffff
)

// The tokens.
const (
	x86     = 0xc000003e
	i386    = 0x40000003
	arm64   = 0xc00000b7
	riscv64 = 0xc00000f3
)

// Codes of actions.
const (
	toKill  = 0x80000000
	toTrap  = 0x00030000
	toErrno = 0x00050000
	toLog   = 0x7ffc0000
	toAllow = 0x7fff0000
)

// Actions that the tests put.
var (
	kill  = act.Action{Kind: 1}
	trap  = act.Action{Kind: 3}
	log   = act.Action{Kind: 7}
	allow = act.Action{Kind: 8}
)

func errno(n int) act.Action { return act.Action{Kind: 4, Number: n} }

func rule(name string, a act.Action, l ...cond.Cond) policy.Rule {
	return policy.Rule{Name: name, Action: a, Conds: l}
}

// is tells the condition that argument 0 is a value.
func is(value uint64) cond.Cond { return cond.Cond{Op: 1, Value: value} }

// many tells a list of the same thing, so many times.
func many[T any](n int, of T) []T { return slices.Repeat([]T{of}, n) }

// brief tells a thing's beginning.
func brief(a any) string { return fmt.Sprintf("%.400s", fmt.Sprintf("%+v", a)) }

// record tells a record of a token, a number, and arguments.
func record(arch, number uint32, args ...uint64) data.Record {
	r := data.Record{Number: number, Arch: arch}
	copy(r.Args[:], args)
	return r
}

// parsed tells the policy of a text.
func parsed(t *testing.T, text string) policy.Policy {
	t.Helper()
	p, at, e := policy.Parse(text)
	if e != api.OK {
		t.Fatalf("Parse of %q: %d, %d", text, at, e)
	}
	return p
}

// judges holds Judge to a code.
func judges(t *testing.T, p policy.Policy, l []systab.Row, r data.Record, want uint32) {
	t.Helper()
	if code, e := model.Judge(p, l, r); code != want || e != api.OK {
		t.Errorf("Judge of %#x by %s: %#x, %d; not %#x", r, brief(p), code, e, want)
	}
}

// decides holds Decide to an action.
func decides(t *testing.T, p policy.Policy, name string, want act.Action, args ...uint64) {
	t.Helper()
	var all [6]uint64
	copy(all[:], args)
	if a := model.Decide(p, name, all); a != want {
		t.Errorf("Decide of %s of %#x by %s: %+v, not %+v", name, args, brief(p), a, want)
	}
}

// blind holds Blind to an action.
func blind(t *testing.T, p policy.Policy, name string, want act.Action) {
	t.Helper()
	if a := model.Blind(p, name); a != want {
		t.Errorf("Blind of %s by %s: %+v, not %+v", name, brief(p), a, want)
	}
}

// P17.1: the first rule of the name whose conditions all hold decides; the default without.
func TestDecide(t *testing.T) {
	p := parsed(t, "default errno 38\nread log if a0 == 1 and a1 == 2\nwrite kill\nread allow if a0 == 1\nread trap if a1 == 2 and a5 > 9\nread kill if a0 == 1\nopen trace 7\nopen log")
	decides(t, p, "read", log, 1, 2)
	decides(t, p, "read", log, 1, 2, 3, 4, 5, 10)
	decides(t, p, "read", allow, 1)
	decides(t, p, "read", allow, 1, 3)
	decides(t, p, "read", allow, 1, 1<<32+2)
	decides(t, p, "read", trap, 0, 2, 0, 0, 0, 10)
	decides(t, p, "read", trap, 1<<32+1, 2, 0, 0, 0, math.MaxUint64)
	decides(t, p, "read", errno(38), 0, 2, 0, 0, 0, 9)
	decides(t, p, "read", errno(38), 0, 0, 0, 0, 0, 10)
	decides(t, p, "read", errno(38), 2, 1)
	decides(t, p, "write", kill)
	decides(t, p, "write", kill, 1, 2)
	decides(t, p, "open", act.Action{Kind: 6, Number: 7}, 9)
	for _, name := range []string{"", "close", "rea", "reads", "READ", "default", "x32", "read ", "nobody"} {
		decides(t, p, name, errno(38))
		decides(t, p, name, errno(38), 1, 2)
	}
	decides(t, parsed(t, "default allow\nread kill if a0 >= 0"), "read", kill, 5)
	decides(t, parsed(t, "default allow\nread kill if a0 < 0\nread log"), "read", log)
	decides(t, policy.Policy{Default: log}, "read", log)
}

// P17.1: each argument is asked, by its own place.
func TestDecideArguments(t *testing.T) {
	for at := range 6 {
		p := policy.Policy{Default: kill, Rules: []policy.Rule{rule("read", allow, cond.Cond{Arg: at, Op: 6, Value: 1 << 63})}}
		for other := range 6 {
			var args [6]uint64
			args[other] = 1 << 63
			want := kill
			if other == at {
				want = allow
			}
			decides(t, p, "read", want, args[:]...)
			args[other]--
			decides(t, p, "read", kill, args[:]...)
		}
	}
}

// P17.1: without arguments the first rule of the name alone counts, and only if it has no conditions.
func TestBlind(t *testing.T) {
	p := parsed(t, "default errno 38\nread log if a0 == 1\nwrite kill\nread allow\nwrite log if a0 == 1\nopen trace 7\nopen log\nbind allow if a0 >= 0\nbind log\nsend kill if a0 < 0\nsend trap")
	blind(t, p, "read", errno(38))
	blind(t, p, "write", kill)
	blind(t, p, "open", act.Action{Kind: 6, Number: 7})
	// What the conditions mean does not count.
	blind(t, p, "bind", errno(38))
	blind(t, p, "send", errno(38))
	for _, name := range []string{"", "close", "ope", "opens", "OPEN", "default", "x32", "nobody"} {
		blind(t, p, name, errno(38))
	}
	blind(t, policy.Policy{Default: log}, "read", log)
	blind(t, policy.Policy{Default: log, Rules: []policy.Rule{{Name: "read", Action: kill, Conds: []cond.Cond{}}}}, "read", kill)
}

// R1: a policy that may not be decides by the same words; what is no condition does not hold.
func TestDecideOfAny(t *testing.T) {
	odd := act.Action{Kind: 99, Number: -1}
	p := policy.Policy{Default: odd, Rules: append(many(600, rule("", kill, cond.Cond{Arg: 6, Op: 1})), rule("", log, is(0), cond.Cond{Op: 8}), rule("", allow, many(9, is(0))...))}
	decides(t, p, "", allow)
	decides(t, p, "", odd, 1)
	decides(t, p, "read", odd)
	blind(t, p, "", odd)
	blind(t, p, "read", odd)
	for _, c := range []cond.Cond{{Arg: -1, Op: 1}, {Arg: math.MaxInt, Op: 1}, {Arg: math.MinInt, Op: 1}, {}, {Op: -1}, {Op: 1, Mask: 1}} {
		decides(t, policy.Policy{Rules: []policy.Rule{rule("read", kill, c)}}, "read", act.Action{})
	}
	decides(t, policy.Policy{}, "read", act.Action{})
	blind(t, policy.Policy{}, "read", act.Action{})
}

// P17.1: the document's example.
func TestJudgeExample(t *testing.T) {
	p, l := parsed(t, "default kill\nread allow"), systab.Builtin()
	for _, arch := range []uint32{x86, i386, arm64, riscv64} {
		for number := range uint32(600) {
			want := uint32(toKill)
			if number == map[uint32]uint32{x86: 0, i386: 3, arm64: 63, riscv64: 63}[arch] {
				want = toAllow
			}
			judges(t, p, l, record(arch, number), want)
		}
	}
}

// P17.1: a record of none of the four tokens is killed, whatever the policy says.
func TestJudgeNoABI(t *testing.T) {
	p, l := parsed(t, "default allow\nx32 on\nread log\nconnect log"), systab.Builtin()
	archs := []uint32{0, 1, 0x3e, 0x3e0000c0, 0x4000003e, 0x80000003, 0xc0000003, 0xb7, 0xf3, noCall}
	for n := range 32 {
		for _, arch := range []uint32{x86, i386, arm64, riscv64} {
			archs = append(archs, arch^1<<n)
		}
	}
	for _, arch := range archs {
		for _, number := range []uint32{0, 3, 63, 102, bit, noCall} {
			judges(t, p, l, record(arch, number, 3), toKill)
		}
	}
}

// P17.1: x86_64's token with bit 30 is judged by x32's numbers alone, and killed, if x32 is not let in; no call is x86_64's.
func TestJudgeX32(t *testing.T) {
	l := systab.Builtin()
	text := "\nioctl log\nread allow if a0 == 4294967297\nmmap2 allow\nexecve trap"
	in, out := parsed(t, "default errno 1\nx32 on"+text), parsed(t, "default errno 1"+text)
	for _, c := range []struct {
		number uint32
		want   uint32
	}{
		{bit + 514, toLog},
		{bit + 16, toErrno + 1},
		{bit + 520, toTrap},
		{bit + 59, toErrno + 1},
		{bit, toAllow},
		{bit + 1, toErrno + 1},
		{bit + 999, toErrno + 1},
		{2*bit - 1, toErrno + 1},
		{bit + 2*bit, toErrno + 1},
		{noCall - 1, toErrno + 1},
	} {
		r := record(x86, c.number, 1<<32+1)
		judges(t, in, l, r, c.want)
		judges(t, out, l, r, toKill)
	}
	for _, p := range []policy.Policy{in, out} {
		judges(t, p, l, record(x86, noCall), toErrno+1)
		judges(t, p, l, record(x86, 16), toLog)
		judges(t, p, l, record(x86, 514), toErrno+1)
		judges(t, p, l, record(x86, 59), toTrap)
		judges(t, p, l, record(x86, 0, 1<<32+1), toAllow)
		judges(t, p, l, record(x86, 2*bit), toErrno+1)
		// The bit is of x86_64's token alone.
		for _, arch := range []uint32{i386, arm64, riscv64} {
			judges(t, p, l, record(arch, bit+514), toErrno+1)
			judges(t, p, l, record(arch, noCall), toErrno+1)
		}
	}
}

// P17.1: a call without a name gets the default; a name that is absent in an ABI has no number there.
func TestJudgeNoName(t *testing.T) {
	l := systab.Builtin()
	text := "\nx32 on"
	for _, r := range l {
		text += "\n" + r.Name + " allow"
	}
	p := parsed(t, "default log"+text)
	for _, arch := range []uint32{x86, i386, arm64, riscv64} {
		for _, number := range []uint32{999, 1<<30 - 1, 1 << 31, noCall, noCall - 1, noCall - 5, noCall - 43} {
			judges(t, p, l, record(arch, number, 3), toLog)
		}
	}
	judges(t, p, l, record(arm64, 5), toLog)
	judges(t, p, l, record(riscv64, 259), toAllow)
	judges(t, p, l, record(arm64, 259), toLog)
	judges(t, p, l, record(i386, 90), toLog)
	// A table of no names has none (R3: nil or not).
	for _, none := range [][]systab.Row{nil, {}} {
		judges(t, p, none, record(x86, 0), toLog)
		judges(t, p, none, record(x86, bit), toLog)
		judges(t, p, none, record(i386, 102, 3), toLog)
		judges(t, p, none, record(1, 0), toKill)
	}
}

// P17.1: a multiplexed call gets what the policy decides of its name without arguments; an unlisted one the default.
func TestJudgeMuxed(t *testing.T) {
	l := systab.Builtin()
	p := parsed(t, "default errno 1\nconnect allow\nbind log if a0 == 2\nbind trap\nshmat log if a0 == 21\nsend trap\nsend log if a0 == 9\nlisten allow if a0 >= 0\nsemop log\ngetuid log\nptrace log")
	for _, c := range []struct {
		number uint32
		sub    uint64
		want   uint32
	}{
		{102, 3, toAllow},
		{102, 1<<32 + 3, toAllow},
		{102, math.MaxUint32<<32 + 3, toAllow},
		{102, 2, toErrno + 1},
		{102, 9, toTrap},
		{102, 4, toErrno + 1},
		{102, 1, toErrno + 1},
		{102, 0, toErrno + 1},
		{102, 19, toErrno + 1},
		{102, 99, toErrno + 1},
		{102, 3 << 32, toErrno + 1},
		{102, math.MaxUint64, toErrno + 1},
		{117, 1, toLog},
		{117, 1<<63 + 1, toLog},
		{117, 21, toErrno + 1},
		{117, 3, toErrno + 1},
		{117, 2, toErrno + 1},
		{117, 0, toErrno + 1},
	} {
		judges(t, p, l, record(i386, c.number, c.sub, 2, 2, 2, 2, 2), c.want)
	}
	// The same names by their own numbers are asked with their arguments.
	judges(t, p, l, record(i386, 362, 9), toAllow)
	judges(t, p, l, record(i386, 361, 2), toLog)
	judges(t, p, l, record(i386, 361, 3), toTrap)
	judges(t, p, l, record(i386, 397, 21), toLog)
	judges(t, p, l, record(i386, 397, 20), toErrno+1)
	judges(t, p, l, record(i386, 363, 4), toAllow)
	// 102 and 117 are multiplexers of i386 alone.
	judges(t, p, l, record(x86, 102, 3), toLog)
	judges(t, p, l, record(x86, 117, 3), toErrno+1)
	judges(t, p, l, record(arm64, 117, 3), toLog)
	judges(t, p, l, record(riscv64, 117, 1), toLog)
	judges(t, p, l, record(riscv64, 102, 3), toErrno+1)
}

// P17.1: i386 sees the lower halves of the arguments, the others all of them.
func TestJudgeArguments(t *testing.T) {
	l := systab.Builtin()
	for at := range 6 {
		p := policy.Policy{Default: kill, X32: true, Rules: []policy.Rule{
			rule("read", allow, cond.Cond{Arg: at, Op: 1, Value: 5}),
			rule("read", log, cond.Cond{Arg: at, Op: 6, Value: 1 << 32}),
		}}
		for _, c := range []struct{ arg, narrow, wide uint64 }{{5, toAllow, toAllow}, {1<<32 + 5, toAllow, toLog}, {math.MaxUint32<<32 + 5, toAllow, toLog}, {6, toKill, toKill}, {1 << 32, toKill, toLog}, {math.MaxUint64, toKill, toLog}} {
			var args [6]uint64
			args[at] = c.arg
			judges(t, p, l, record(i386, 3, args[:]...), uint32(c.narrow))
			for _, wide := range [][2]uint32{{x86, 0}, {x86, bit}, {arm64, 63}, {riscv64, 63}} {
				judges(t, p, l, record(wide[0], wide[1], args[:]...), uint32(c.wide))
			}
		}
	}
}

// P17.1: what is told is the action's code, of each kind; a code of 0, too.
func TestJudgeCodes(t *testing.T) {
	l := systab.Builtin()
	for text, code := range map[string]uint32{"kill": toKill, "kill_thread": 0, "trap": toTrap, "errno 0": toErrno, "errno 4095": toErrno + 4095, "notify": 0x7fc00000, "trace 0": 0x7ff00000, "trace 65535": 0x7ff0ffff, "log": toLog, "allow": toAllow} {
		p, q := parsed(t, "default errno 77\nread "+text+"\nconnect "+text), parsed(t, "default "+text+"\nread errno 77")
		judges(t, p, l, record(arm64, 63), code)
		judges(t, p, l, record(arm64, 64), toErrno+77)
		judges(t, p, l, record(i386, 102, 3), code)
		judges(t, q, l, record(arm64, 63), toErrno+77)
		judges(t, q, l, record(arm64, 64), code)
		judges(t, q, l, record(i386, 102, 3), code)
		judges(t, q, l, record(1, 0), toKill)
		judges(t, q, l, record(x86, bit), toKill)
	}
}

// row tells one of a name that is absent everywhere.
func row(name string) systab.Row { return systab.Row{Name: name, Numbers: [5]int{-1, -1, -1, -1, -1}} }

// wrongTables goes through tables that may not be.
func wrongTables() [][]systab.Row {
	low, mux := row("read"), row("read")
	low.Numbers[0], mux.Numbers[2] = -2, 102
	return [][]systab.Row{
		{row("B")},
		{row("read"), row("open")},
		{row("read"), row("read")},
		{low},
		{mux},
		{{Name: "open"}, {Name: "read"}},
		{row("open"), {Name: "read", Mux: 3, Sub: 1}},
		many(api.MaxRows+1, row("read")),
	}
}

// wrongPolicies goes through policies that may not be.
func wrongPolicies() []policy.Policy {
	return []policy.Policy{
		{},
		{Default: act.Action{Kind: 9}},
		{Default: act.Action{Kind: 1, Number: 1}, Rules: []policy.Rule{rule("read", allow)}},
		{Rules: []policy.Rule{rule("read", allow)}},
		{Default: allow, Rules: []policy.Rule{rule("", allow)}},
		{Default: allow, Rules: []policy.Rule{rule("READ", allow)}},
		{Default: allow, Rules: []policy.Rule{rule("read", errno(4096))}},
		{Default: allow, Rules: []policy.Rule{rule("read", allow), rule("open", act.Action{})}},
		{Default: allow, Rules: []policy.Rule{rule("read", allow, cond.Cond{})}},
		{Default: allow, Rules: []policy.Rule{rule("read", allow, cond.Cond{Arg: 6, Op: 1})}},
		{Default: allow, Rules: []policy.Rule{rule("read", allow, many(7, is(0))...)}},
		{Default: allow, Rules: many(501, rule("read", allow))},
	}
}

// P17.1, R2: a policy that may not be counts ahead of a table that may not; both ahead of the record, whatever it is.
func TestJudgeWrong(t *testing.T) {
	records := []data.Record{{}, record(1, 0), record(x86, 0), record(x86, 1), record(x86, bit), record(i386, 102, 3), record(i386, 3), record(x86, noCall)}
	fails := func(p policy.Policy, l []systab.Row, want api.Errno) {
		t.Helper()
		for _, r := range records {
			if code, e := model.Judge(p, l, r); code != 0 || e != want {
				t.Errorf("Judge of %#x by %s, %s: %#x, %d; not %d", r, brief(p), brief(l), code, e, want)
			}
		}
	}
	for _, p := range wrongPolicies() {
		fails(p, systab.Builtin(), api.ErrForm)
		fails(p, nil, api.ErrForm)
		for _, l := range wrongTables() {
			fails(p, l, api.ErrForm)
		}
	}
	for _, l := range wrongTables() {
		fails(policy.Policy{Default: allow}, l, api.ErrState)
		fails(parsed(t, "default allow\nread log\nnobody log"), l, api.ErrState)
	}
}

// P17.1: a policy judges also if it is not valid of the table: names that the table has not, rules behind the same ones, values beside their masks.
func TestJudgeNotValid(t *testing.T) {
	p, l := parsed(t, "default errno 1\nnobody log\nread trap if a0 & 1 == 2\nread allow if a0 == 1\nread kill if a0 == 1\nread log\nread kill"), systab.Builtin()
	judges(t, p, l, record(x86, 0, 1), toAllow)
	judges(t, p, l, record(x86, 0, 2), toLog)
	judges(t, p, l, record(x86, 0, 3), toLog)
	judges(t, p, l, record(x86, 1, 1), toErrno+1)
	judges(t, p, l, record(x86, 999), toErrno+1)
}

// P17.2: where a record came from does not count.
func TestFrom(t *testing.T) {
	p, l := parsed(t, "default errno 1\nread allow if a0 == 1\nconnect log"), systab.Builtin()
	for _, r := range []data.Record{record(x86, 0, 1), record(x86, 0, 2), record(x86, bit, 1), record(i386, 102, 3), record(i386, 102, 4), record(i386, 3, 1), record(arm64, 999), record(7, 0)} {
		want, _ := model.Judge(p, l, r)
		for n := range 64 {
			r.Pointer = 1 << n
			judges(t, p, l, r, want)
			r.Pointer = ^r.Pointer
			judges(t, p, l, r, want)
		}
	}
}

// chance tells numbers that are the same each time.
type chance uint64

func (c *chance) below(n int) int {
	*c = *c*6364136223846793005 + 1442695040888963407
	mixed := uint64(*c>>32) ^ uint64(*c>>47)
	return int((mixed * 0x9e3779b97f4a7c15 >> 33) % uint64(n))
}

// values tells few, those that are multiplexers' numbers of fewRows' names among them.
func values() []uint64 {
	return []uint64{0, 1, 2, 3, 9, 13, 1 << 32, 1<<32 + 1, 1<<32 + 3, math.MaxUint32, 1 << 63, math.MaxUint64}
}

// common tells names of the built-in table, of all kinds: in all ABIs, in some, and with a multiplexer, too, or alone.
func common() []string {
	return []string{"connect", "execve", "getuid", "mmap2", "msgget", "open", "ptrace", "read", "send"}
}

// fewRows tells the built-in table's rows of these names: asked so often, all of it takes its time.
func fewRows() []systab.Row {
	return slices.DeleteFunc(systab.Builtin(), func(r systab.Row) bool { return !slices.Contains(common(), r.Name) })
}

// cond tells a right condition.
func (c *chance) cond() cond.Cond {
	few := values()
	d := cond.Cond{Arg: c.below(2), Op: 1 + c.below(7), Value: few[c.below(12)]}
	if d.Op == 7 {
		d.Mask = few[c.below(12)]
		if c.below(3) > 0 {
			d.Value &= d.Mask
		}
	}
	return d
}

// policy tells one that may be.
func (c *chance) policy() policy.Policy {
	actions := []act.Action{kill, trap, errno(1), errno(2), log, allow, {Kind: 2}}
	p := policy.Policy{Default: actions[c.below(7)], X32: c.below(2) == 0}
	for range c.below(16) {
		r := rule(common()[c.below(9)], actions[c.below(7)])
		for range c.below(1 + c.below(4)) {
			r.Conds = append(r.Conds, c.cond())
		}
		p.Rules = append(p.Rules, r)
	}
	return p
}

// number tells one of a row, or near one, or any.
func (c *chance) number(l []systab.Row) uint32 {
	switch c.below(10) {
	case 0:
		return []uint32{0, 999, bit - 1, bit, 2 * bit, 3 * bit, noCall, noCall - 1, noCall - 3}[c.below(9)]
	case 1, 2, 3:
		return []uint32{102, 117, bit + 102, bit + 117}[c.below(4)]
	}
	n := uint32(l[c.below(len(l))].Numbers[c.below(5)])
	if c.below(4) == 0 {
		n |= bit
	}
	return n
}

// record tells one of a token, seldom of none.
func (c *chance) record(l []systab.Row) data.Record {
	archs := []uint32{x86, x86, x86, i386, i386, i386, arm64, riscv64}
	r := record(archs[c.below(8)], c.number(l))
	if c.below(30) == 0 {
		r.Arch = uint32(c.below(1 << 30))
	}
	r.Pointer = uint64(c.below(1 << 30))
	for at := range r.Args {
		r.Args[at] = values()[c.below(12)]
	}
	return r
}

// toldCall tells a record's ABI (-1: none), its name (or none), and whether it is multiplexed, by the table of rows alone.
func toldCall(l []systab.Row, r data.Record) (a int, name string, muxed bool) {
	own, a := r.Number, -1
	switch r.Arch {
	case x86:
		a = api.X64
		if own != noCall && own&bit > 0 {
			a, own = api.X32, own-bit
		}
	case i386:
		a = api.I386
	case arm64:
		a = api.Arm64
	case riscv64:
		a = api.Riscv64
	}
	if a < 0 {
		return -1, "", false
	}
	kind := map[uint32]int{102: 1, 117: 2}[own]
	muxed = a == api.I386 && kind > 0
	for _, row := range l {
		if muxed && row.Mux == kind && row.Sub == int(r.Args[0]&math.MaxUint32) || !muxed && row.Numbers[a] == int(own) {
			name = row.Name
		}
	}
	return a, name, muxed
}

// toldArg: does a condition hold of an argument?
func toldArg(c cond.Cond, n uint64) bool {
	return [...]bool{false, n == c.Value, n != c.Value, n < c.Value, n <= c.Value, n > c.Value, n >= c.Value, n&c.Mask == c.Value}[c.Op]
}

// toldRule: do all conditions of a rule hold of a record of an ABI?
func toldRule(l []cond.Cond, a int, r data.Record) bool {
	for _, c := range l {
		n := r.Args[c.Arg]
		if a == api.I386 {
			n %= 1 << 32
		}
		if !toldArg(c, n) {
			return false
		}
	}
	return true
}

// told tells the action that Judge ought to tell the code of, word by word from the document.
func told(p policy.Policy, l []systab.Row, r data.Record) act.Action {
	a, name, muxed := toldCall(l, r)
	if a < 0 || a == api.X32 && !p.X32 {
		return kill
	}
	for _, one := range p.Rules {
		switch {
		case name == "" || one.Name != name:
		case muxed && len(one.Conds) > 0:
			return p.Default
		case toldRule(one.Conds, a, r):
			return one.Action
		}
	}
	return p.Default
}

// P17.1: over many policies and records, held against a second telling of the document's words.
func TestManyRecords(t *testing.T) {
	var c chance
	met := map[string]int{}
	for _, l := range [][]systab.Row{fewRows(), fewRows()[1:], systab.Builtin()} {
		for range 1500 {
			p := c.policy()
			for range 12 {
				r := c.record(l)
				code, _ := act.Code(told(p, l, r))
				judges(t, p, l, r, code)
				a, name, muxed := toldCall(l, r)
				met[fmt.Sprint(a, name != "", muxed, a == api.X32 && p.X32)]++
			}
		}
	}
	if len(met) != 15 {
		t.Errorf("kinds of records: %v", met)
	}
	for kind, n := range met {
		if n < 100 {
			t.Errorf("%s: %d records", kind, n)
		}
	}
}

// normal tells a policy's normal form.
func normal(t *testing.T, p policy.Policy) policy.Policy {
	t.Helper()
	n, e := norm.Policy(p)
	if e != api.OK {
		t.Fatalf("Policy of %s: %d", brief(p), e)
	}
	return n
}

// P17.2: of every record that is not multiplexed the normal form judges as the policy does.
func TestNormalJudges(t *testing.T) {
	c, l := chance(1), fewRows()
	for range 3000 {
		p := c.policy()
		n := normal(t, p)
		for range 20 {
			r := c.record(l)
			if _, _, muxed := toldCall(l, r); muxed {
				continue
			}
			want, _ := model.Judge(p, l, r)
			judges(t, n, l, r, want)
		}
	}
}

// P17.2: of every record, if the policy is valid, and has no conditions for names with a multiplexer.
func TestNormalJudgesAll(t *testing.T) {
	c, l := chance(2), fewRows()
	held, muxes := 0, 0
	for range 9000 {
		p := c.policy()
		for at, r := range p.Rules {
			if row, _, _ := systab.Find(l, r.Name); row.Mux != 0 {
				p.Rules[at].Conds = nil
			}
		}
		if _, e := valid.Check(p, l); e != api.OK {
			continue
		}
		held++
		n := normal(t, p)
		for range 20 {
			r := c.record(l)
			want, _ := model.Judge(p, l, r)
			judges(t, n, l, r, want)
			if _, name, muxed := toldCall(l, r); muxed && name != "" {
				muxes++
			}
		}
	}
	if held < 500 || muxes < 500 {
		t.Errorf("%d policies, %d multiplexed records", held, muxes)
	}
}

// P17.1, P17.2: of a multiplexed record the policy is judged as it stands: conditions that always hold are conditions.
func TestNormalOfMuxed(t *testing.T) {
	p, l := parsed(t, "default errno 1\nconnect allow if a0 >= 0"), systab.Builtin()
	judges(t, p, l, record(i386, 102, 3), toErrno+1)
	judges(t, normal(t, p), l, record(i386, 102, 3), toAllow)
	judges(t, p, l, record(i386, 362, 3), toAllow)
}

// R4: neither the policy nor the table is changed, the spare room behind their lists' ends neither.
func TestUnchanged(t *testing.T) {
	conds := []cond.Cond{is(3), is(2), is(1), is(9)}
	rules := []policy.Rule{rule("write", allow, conds[:3]...), rule("read", log), rule("connect", kill), rule("open", kill), rule("nobody", trap)}
	was := slices.Clone(rules)
	was[0].Conds = slices.Clone(conds[:3])
	table := append(systab.Builtin(), row("z"))
	p := policy.Policy{Default: errno(1), Rules: rules[:3]}
	for _, r := range []data.Record{record(x86, 1, 3), record(i386, 102, 3), record(x86, 0), record(x86, 2), record(1, 1)} {
		model.Judge(p, table[:83], r)
		model.Decide(p, "write", r.Args)
		model.Blind(p, "write")
	}
	if !policy.Same(policy.Policy{Rules: rules}, policy.Policy{Rules: was}) || !slices.Equal(conds, []cond.Cond{is(3), is(2), is(1), is(9)}) {
		t.Errorf("changed: %+v, %+v", rules, conds)
	}
	if !slices.Equal(table, append(systab.Builtin(), row("z"))) {
		t.Error("another table")
	}
	// What was asked ahead does not count (R5).
	judges(t, p, table[:83], record(i386, 102, 3), toKill)
	decides(t, p, "open", errno(1))
	decides(t, p, "nobody", errno(1))
	blind(t, p, "open", errno(1))
}
