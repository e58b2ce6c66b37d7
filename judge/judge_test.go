package judge_test

import (
	"fmt"
	"maps"
	"math"
	"slices"
	"strings"
	"testing"

	"strainer/act"
	"strainer/api"
	"strainer/build"
	"strainer/cond"
	"strainer/data"
	"strainer/inst"
	"strainer/judge"
	"strainer/model"
	"strainer/policy"
	"strainer/systab"
)

const (
	bit    = 0x40000000
	noCall = 0xffffffff
)

// The tokens.
const (
	x86     = 0xc000003e
	i386    = 0x40000003
	arm64   = 0xc00000b7
	riscv64 = 0xc00000f3
)

// Codes of actions.
const (
	toKill  = 0x80000000
	toTrap  = 0x00030000
	toErrno = 0x00050000
	toTrace = 0x7ff00000
	toLog   = 0x7ffc0000
	toAllow = 0x7fff0000
)

// Actions that the tests put.
var (
	kill  = act.Action{Kind: 1}
	log   = act.Action{Kind: 7}
	allow = act.Action{Kind: 8}
)

func rule(name string, a act.Action, l ...cond.Cond) policy.Rule {
	return policy.Rule{Name: name, Action: a, Conds: l}
}

// is tells the condition that argument 0 is a value.
func is(value uint64) cond.Cond { return cond.Cond{Op: 1, Value: value} }

// brief tells a thing's beginning.
func brief(a any) string { return fmt.Sprintf("%.600s", fmt.Sprintf("%+v", a)) }

// record tells a record of a token, a number, and arguments.
func record(arch, number uint32, args ...uint64) data.Record {
	r := data.Record{Number: number, Arch: arch}
	copy(r.Args[:], args)
	return r
}

// parsed tells the policy of a text.
func parsed(t *testing.T, text string) policy.Policy {
	t.Helper()
	p, at, e := policy.Parse(text)
	if e != api.OK {
		t.Fatalf("Parse of %q: %d, %d", text, at, e)
	}
	return p
}

// built tells the program of a policy that has one.
func built(t *testing.T, p policy.Policy, l []systab.Row) []byte {
	t.Helper()
	o, e := build.Policy(p, l)
	if e != api.OK {
		t.Fatalf("Policy of %s: %d", brief(p), e)
	}
	return o.Program
}

// row tells one of a name that is absent everywhere.
func row(name string) systab.Row { return systab.Row{Name: name, Numbers: [5]int{-1, -1, -1, -1, -1}} }

// because holds Why to a reason, and Text to its text.
func because(t *testing.T, p policy.Policy, l []systab.Row, r data.Record, want judge.Reason, text string) {
	t.Helper()
	x, e := judge.Why(p, l, r)
	if e != api.OK || x != want {
		t.Errorf("P23.1: Why of %#x: %+v, %d, not %+v", r, x, e, want)
	}
	if s := judge.Text(x); s != text {
		t.Errorf("P23.1: Text of %+v: %q, not %q", x, s, text)
	}
}

// P23.1: the document's example, and a record of each kind.
func TestWhy(t *testing.T) {
	l := systab.Builtin()
	p := parsed(t, "default kill\nread allow")
	because(t, p, l, record(x86, 0), judge.Reason{Some: true, ABI: api.X64, Name: "read", Rule: 0, Code: toAllow}, "x86_64 read rule 0: allow")
	p = parsed(t, "default errno 38\nwrite trap\nread log if a0 == 1 and a1 != 2\nread kill if a0 == 1\nread trace 9\nconnect allow\nconnect trap\nbind log\nmsgget trace 65535")
	for _, c := range []struct {
		r    data.Record
		want judge.Reason
		text string
	}{
		{record(x86, 0, 1), judge.Reason{Some: true, ABI: api.X64, Name: "read", Rule: 1, Code: toLog}, "x86_64 read rule 1: log"},
		{record(x86, 0, 1, 2), judge.Reason{Some: true, ABI: api.X64, Name: "read", Rule: 2, Code: toKill}, "x86_64 read rule 2: kill"},
		{record(x86, 0, 1<<32+1), judge.Reason{Some: true, ABI: api.X64, Name: "read", Rule: 3, Code: toTrace + 9}, "x86_64 read rule 3: trace 9"},
		{record(i386, 3, 1<<32+1), judge.Reason{Some: true, ABI: api.I386, Name: "read", Rule: 1, Code: toLog}, "i386 read rule 1: log"},
		{record(i386, 3, 1, 1<<32+2), judge.Reason{Some: true, ABI: api.I386, Name: "read", Rule: 2, Code: toKill}, "i386 read rule 2: kill"},
		{record(arm64, 64), judge.Reason{Some: true, ABI: api.Arm64, Name: "write", Rule: 0, Code: toTrap}, "arm64 write rule 0: trap"},
		{record(riscv64, 56), judge.Reason{Some: true, ABI: api.Riscv64, Name: "openat", Rule: -1, Code: toErrno + 38}, "riscv64 openat default: errno 38"},
		{record(riscv64, 999), judge.Reason{Some: true, ABI: api.Riscv64, Rule: -1, Code: toErrno + 38}, "riscv64 ? default: errno 38"},
		{record(x86, noCall), judge.Reason{Some: true, ABI: api.X64, Rule: -1, Code: toErrno + 38}, "x86_64 ? default: errno 38"},
		{record(i386, 362, 9), judge.Reason{Some: true, ABI: api.I386, Name: "connect", Rule: 4, Code: toAllow}, "i386 connect rule 4: allow"},
		{record(i386, 102, 3), judge.Reason{Some: true, ABI: api.I386, Name: "connect", Mux: 1, Rule: 4, Code: toAllow}, "i386 connect by socketcall rule 4: allow"},
		{record(i386, 102, 1<<63+2), judge.Reason{Some: true, ABI: api.I386, Name: "bind", Mux: 1, Rule: 6, Code: toLog}, "i386 bind by socketcall rule 6: log"},
		{record(i386, 102, 9), judge.Reason{Some: true, ABI: api.I386, Name: "send", Mux: 1, Rule: -1, Code: toErrno + 38}, "i386 send by socketcall default: errno 38"},
		{record(i386, 102), judge.Reason{Some: true, ABI: api.I386, Mux: 1, Rule: -1, Code: toErrno + 38}, "i386 ? by socketcall default: errno 38"},
		{record(i386, 117, 13), judge.Reason{Some: true, ABI: api.I386, Name: "msgget", Mux: 2, Rule: 7, Code: toTrace + 65535}, "i386 msgget by ipc rule 7: trace 65535"},
		{record(i386, 117, 99), judge.Reason{Some: true, ABI: api.I386, Mux: 2, Rule: -1, Code: toErrno + 38}, "i386 ? by ipc default: errno 38"},
		// 102 and 117 are multiplexers of i386 alone.
		{record(x86, 102, 3), judge.Reason{Some: true, ABI: api.X64, Name: "getuid", Rule: -1, Code: toErrno + 38}, "x86_64 getuid default: errno 38"},
		{record(arm64, 117, 13), judge.Reason{Some: true, ABI: api.Arm64, Name: "ptrace", Rule: -1, Code: toErrno + 38}, "arm64 ptrace default: errno 38"},
	} {
		because(t, p, l, c.r, c.want, c.text)
	}
}

// P23.1: of a record that is killed for its ABI no rule decides: of none of the four tokens, and of x32, that is not let in.
func TestKilled(t *testing.T) {
	l := systab.Builtin()
	text := "default allow\nx32 on\nread log\nioctl trap\nconnect trap"
	in, out := parsed(t, text), parsed(t, strings.Replace(text, "on", "off", 1))
	for _, p := range []policy.Policy{in, out} {
		for _, arch := range []uint32{0, 1, noCall, x86 ^ 1, i386 ^ 1<<31, arm64 - 1, riscv64 + 1} {
			for _, number := range []uint32{0, 3, 102, 117, bit, noCall} {
				because(t, p, l, record(arch, number, 3), judge.Reason{Rule: -1, Code: toKill}, "none: kill")
			}
		}
		because(t, p, l, record(x86, noCall), judge.Reason{Some: true, ABI: api.X64, Rule: -1, Code: toAllow}, "x86_64 ? default: allow")
		because(t, p, l, record(x86, 16), judge.Reason{Some: true, ABI: api.X64, Name: "ioctl", Rule: 1, Code: toTrap}, "x86_64 ioctl rule 1: trap")
		because(t, p, l, record(arm64, bit), judge.Reason{Some: true, ABI: api.Arm64, Rule: -1, Code: toAllow}, "arm64 ? default: allow")
	}
	for _, c := range []struct {
		number, code uint32
		name, text   string
		rule         int
	}{
		{bit, toLog, "read", "read rule 0: log", 0},
		{bit + 514, toTrap, "ioctl", "ioctl rule 1: trap", 1},
		{bit + 42, toTrap, "connect", "connect rule 2: trap", 2},
		{bit + 1, toAllow, "write", "write default: allow", -1},
		{bit + 16, toAllow, "", "? default: allow", -1},
		{bit + 102, toAllow, "getuid", "getuid default: allow", -1},
		{3 * bit, toAllow, "", "? default: allow", -1},
	} {
		r := record(x86, c.number, 3)
		because(t, in, l, r, judge.Reason{Some: true, ABI: api.X32, Name: c.name, Rule: c.rule, Code: c.code}, "x32 "+c.text)
		name := strings.Fields(c.text)[0]
		because(t, out, l, r, judge.Reason{Some: true, ABI: api.X32, Name: c.name, Out: true, Rule: -1, Code: toKill}, "x32 "+name+" out: kill")
	}
}

// P23.1: of a multiplexed call the first rule of its name decides, if it has no conditions; else none does. It is told of policies that layer 18 refuses, too.
func TestBlind(t *testing.T) {
	l := systab.Builtin()
	p := parsed(t, "default errno 1\nbind log if a0 == 2\nbind trap\nconnect allow if a0 >= 0\nsend trap\nsend log if a0 == 9\nshmat log")
	for text, r := range map[string]data.Record{
		"i386 bind by socketcall default: errno 1":    record(i386, 102, 2),
		"i386 connect by socketcall default: errno 1": record(i386, 102, 3),
		"i386 send by socketcall rule 3: trap":        record(i386, 102, 9),
		"i386 shmat by ipc rule 5: log":               record(i386, 117, 21),
		"i386 bind rule 0: log":                       record(i386, 361, 1<<32+2),
		"i386 bind rule 1: trap":                      record(i386, 361, 3),
		"x86_64 connect rule 2: allow":                record(x86, 42, 3),
	} {
		x, e := judge.Why(p, l, r)
		if s := judge.Text(x); e != api.OK || s != text {
			t.Errorf("P23.1: %q, %d, not %q", s, e, text)
		}
	}
}

// P23.1: a reason is told of a policy that is not valid of the table, too: the rules' numbers are those of the policy as it stands.
func TestNotValid(t *testing.T) {
	p, l := parsed(t, "default errno 1\nnope log\nread trap if a0 & 1 == 2\nread allow if a0 == 1\nread kill if a0 == 1\nread log\nread kill"), systab.Builtin()
	because(t, p, l, record(x86, 0, 1), judge.Reason{Some: true, Name: "read", Rule: 2, Code: toAllow}, "x86_64 read rule 2: allow")
	because(t, p, l, record(x86, 0, 2), judge.Reason{Some: true, Name: "read", Rule: 4, Code: toLog}, "x86_64 read rule 4: log")
	because(t, p, l, record(x86, 1), judge.Reason{Some: true, Name: "write", Rule: -1, Code: toErrno + 1}, "x86_64 write default: errno 1")
	because(t, p, nil, record(x86, 0), judge.Reason{Some: true, Rule: -1, Code: toErrno + 1}, "x86_64 ? default: errno 1")
	because(t, p, []systab.Row{}, record(i386, 117, 1), judge.Reason{Some: true, ABI: api.I386, Mux: 2, Rule: -1, Code: toErrno + 1}, "i386 ? by ipc default: errno 1")
}

// P23.1: the last one of as many rules as there may be; a rule whose action is the default decides all the same.
func TestLastRule(t *testing.T) {
	p := policy.Policy{Default: log, Rules: slices.Repeat([]policy.Rule{rule("read", kill, is(1))}, api.MaxRules-1)}
	p.Rules = append(p.Rules, rule("read", log))
	l := systab.Builtin()
	because(t, p, l, record(x86, 0, 1), judge.Reason{Some: true, Name: "read", Code: toKill}, "x86_64 read rule 0: kill")
	because(t, p, l, record(x86, 0, 2), judge.Reason{Some: true, Name: "read", Rule: 499, Code: toLog}, "x86_64 read rule 499: log")
}

// P23.1: each kind of action has its text behind the reason.
func TestActions(t *testing.T) {
	for text, code := range map[string]uint32{"kill": toKill, "kill_thread": 0, "trap": toTrap, "errno 0": toErrno, "errno 4095": toErrno + 4095, "notify": 0x7fc00000, "trace 0": toTrace, "trace 65535": toTrace + 65535, "log": toLog, "allow": toAllow} {
		p, l := parsed(t, "default "+text+"\nread "+text), systab.Builtin()
		because(t, p, l, record(arm64, 63), judge.Reason{Some: true, ABI: api.Arm64, Name: "read", Code: code}, "arm64 read rule 0: "+text)
		because(t, p, l, record(arm64, 64), judge.Reason{Some: true, ABI: api.Arm64, Name: "write", Rule: -1, Code: code}, "arm64 write default: "+text)
	}
}

// wrongTables tells tables that may not be, wrongPolicies policies.
func wrongTables() [][]systab.Row {
	low, mux, odd := row("read"), row("read"), row("read")
	low.Numbers[0], mux.Numbers[2], odd.Mux = -2, 102, 3
	return [][]systab.Row{{row("B")}, {row("read"), row("open")}, {row("read"), row("read")}, {low}, {mux}, {odd}, {{Name: "open"}, {Name: "read"}}, slices.Repeat([]systab.Row{row("read")}, api.MaxRows+1)}
}

func wrongPolicies() []policy.Policy {
	return []policy.Policy{
		{},
		{Default: act.Action{Kind: 9}},
		{Default: allow, Rules: []policy.Rule{rule("", allow)}},
		{Default: allow, Rules: []policy.Rule{rule("read", allow), rule("READ", allow)}},
		{Default: allow, Rules: []policy.Rule{rule("read", act.Action{Kind: 4, Number: 4096})}},
		{Default: allow, Rules: []policy.Rule{rule("read", allow, cond.Cond{})}},
		{Default: allow, Rules: []policy.Rule{rule("read", allow, slices.Repeat([]cond.Cond{is(0)}, 7)...)}},
		{Default: allow, Rules: slices.Repeat([]policy.Rule{rule("read", allow)}, api.MaxRules+1)},
	}
}

// P23.1, R2: layer 17's errors: a policy that may not be ahead of a table that may not; all else is the zero value, the rule's number, too.
func TestWhyWrong(t *testing.T) {
	right := policy.Policy{Default: allow}
	fails := func(p policy.Policy, l []systab.Row, want api.Errno) {
		t.Helper()
		for _, r := range []data.Record{{}, record(x86, 0), record(x86, bit), record(i386, 102, 3)} {
			if x, e := judge.Why(p, l, r); e != want || x != (judge.Reason{}) {
				t.Errorf("P23.1: Why of %#x by %s, %s: %+v, %d, not %d", r, brief(p), brief(l), x, e, want)
			}
		}
	}
	for _, p := range wrongPolicies() {
		fails(p, systab.Builtin(), api.ErrForm)
		for _, l := range wrongTables() {
			fails(p, l, api.ErrForm)
		}
	}
	for _, l := range wrongTables() {
		fails(right, l, api.ErrState)
	}
}

// Of a reason that Why did not tell nothing is promised but that Text ends, and does not panic.
func TestTextOfAny(t *testing.T) {
	for _, n := range []int{math.MinInt, -2, -1, 0, 1, 2, 3, 4, 5, math.MaxInt} {
		for _, code := range []uint32{0, 1, toErrno + 4096, noCall} {
			for _, some := range []bool{false, true} {
				judge.Text(judge.Reason{Some: some, ABI: n, Mux: n, Rule: n, Code: code, Out: !some})
				judge.Text(judge.Reason{Some: some, ABI: n, Mux: n, Rule: n, Code: code, Out: some, Name: "\n"})
			}
		}
	}
}

// P23.1: the probes of tables, written out; a number 0 is one, an absent one is none.
func TestProbes(t *testing.T) {
	last := []data.Record{record(x86, 1<<30-1), record(x86, 1<<31-1), record(i386, 1<<30-1), record(arm64, 1<<30-1), record(riscv64, 1<<30-1), {}}
	alone := systab.Row{Name: "recv", Numbers: [5]int{-1, -1, -1, -1, -1}, Mux: 1, Sub: 10}
	for at, c := range []struct {
		l    []systab.Row
		want []data.Record
	}{
		{nil, nil},
		{[]systab.Row{}, nil},
		{[]systab.Row{row("a"), row("b")}, nil},
		{[]systab.Row{{Name: "a", Numbers: [5]int{1, 2, 3, 4, 5}}}, []data.Record{record(x86, 1), record(x86, bit+2), record(i386, 3), record(arm64, 4), record(riscv64, 5)}},
		{[]systab.Row{{Name: "a"}}, []data.Record{record(x86, 0), record(x86, bit), record(i386, 0), record(arm64, 0), record(riscv64, 0)}},
		{[]systab.Row{{Name: "a", Numbers: [5]int{9, -1, 7, -1, 1<<30 - 1}}, {Name: "b", Numbers: [5]int{8, 8, -1, -1, 6}}}, []data.Record{record(x86, 9), record(x86, 8), record(x86, bit+8), record(i386, 7), record(riscv64, 1<<30-1), record(riscv64, 6)}},
		{[]systab.Row{alone}, []data.Record{record(i386, 102, 10)}},
		{[]systab.Row{{Name: "a", Numbers: [5]int{-1, -1, 5, -1, -1}, Mux: 2, Sub: 255}, alone, {Name: "z", Numbers: [5]int{-1, -1, -1, 3, -1}, Mux: 2, Sub: 1}}, []data.Record{record(i386, 5), record(arm64, 3), record(i386, 117, 255), record(i386, 102, 10), record(i386, 117, 1)}},
	} {
		want := append(slices.Clone(c.want), last...)
		if all := judge.Probes(c.l); !slices.Equal(all, want) {
			t.Errorf("P23.1: %d: %#x, not %#x", at, all, want)
		}
	}
	if all := judge.Probes(systab.Builtin()); len(all) != 78+78+77+65+66+29+6 || all[0] != record(x86, 43) || all[78] != record(x86, bit+43) || all[78+78] != record(i386, 364) || all[78+78+77+65+66] != record(i386, 102, 5) {
		t.Errorf("P23.1: %d probes of the built-in table", len(all))
	}
}

// P23.1: each name of the built-in table is probed in each way to call it, and each ABI by a number without a name, and no ABI.
func TestProbesMeet(t *testing.T) {
	l := systab.Builtin()
	met := map[string]int{}
	p := policy.Policy{Default: allow, X32: true}
	for _, r := range judge.Probes(l) {
		x, e := judge.Why(p, l, r)
		if e != api.OK || r.Pointer != 0 {
			t.Fatalf("P23.1: %#x: %d", r, e)
		}
		met[judge.Text(x)]++
	}
	want := []string{"none: kill"}
	for a, abi := range []string{"x86_64", "x32", "i386", "arm64", "riscv64"} {
		want = append(want, abi+" ? default: allow")
		for _, row := range l {
			if row.Numbers[a] >= 0 {
				want = append(want, abi+" "+row.Name+" default: allow")
			}
		}
	}
	for _, row := range l {
		if row.Mux > 0 {
			want = append(want, "i386 "+row.Name+" by "+[]string{"", "socketcall", "ipc"}[row.Mux]+" default: allow")
		}
	}
	slices.Sort(want)
	if !slices.Equal(slices.Sorted(maps.Keys(met)), want) {
		t.Errorf("P23.1: %v, not %v", slices.Sorted(maps.Keys(met)), want)
	}
}

// Of a table that may not be nothing is promised but that Probes ends, and does not panic.
func TestProbesOfAny(t *testing.T) {
	for _, l := range wrongTables() {
		judge.Probes(l)
	}
	judge.Probes([]systab.Row{{Numbers: [5]int{math.MinInt, math.MaxInt, -2, 1 << 32, 1 << 31}, Mux: math.MinInt, Sub: math.MinInt}, {Mux: math.MaxInt, Sub: -1}, {Mux: 2, Sub: -1}})
}

// write tells the bytes of instructions.
func write(l ...inst.Inst) []byte { return inst.Write(l) }

// ret tells the program that tells a number of all records.
func ret(k uint32) []byte { return write(inst.Inst{Code: 0x06, K: k}) }

// P23.2: the number of the first record at which a program differs; -1 without; where a record came from does not count.
func TestDiffer(t *testing.T) {
	l := systab.Builtin()
	p := parsed(t, "default kill\nread allow\nwrite log if a0 == 1")
	program := built(t, p, l)
	all := []data.Record{record(x86, 0), record(x86, 1), record(x86, 1, 1), record(arm64, 64, 1), record(x86, 2), {}, record(i386, 102, 3)}
	differs := func(program []byte, p policy.Policy, l []systab.Row, records []data.Record, want int) {
		t.Helper()
		if n, e := judge.Differ(program, p, l, records); n != want || e != api.OK {
			t.Errorf("P23.2: %d, %d, not %d", n, e, want)
		}
	}
	differs(program, p, l, nil, -1)
	differs(program, p, l, []data.Record{}, -1)
	differs(program, p, l, all, -1)
	differs(ret(toKill), p, l, all, 0)
	differs(ret(toKill), p, l, all[1:], 1)
	differs(ret(toKill), p, l, all[3:], 0)
	differs(ret(toKill), p, l, all[4:], -1)
	differs(ret(toAllow), p, l, all, 1)
	differs(ret(toLog), p, l, all[2:], 2)
	differs(ret(toKill+1), p, l, all[4:], 0)
	differs(ret(0), p, l, all[6:], 0)
	differs(program, parsed(t, "default kill\nread allow\nwrite log if a0 == 2"), l, all, 2)
	differs(program, parsed(t, "default kill\nread allow\nwrite log if a0 == 1\nconnect trap"), l, all, 6)
	differs(program, p, l[:1], all, 0) // by another table nothing has a name
	for at := range all {
		all[at].Pointer = math.MaxUint64 >> at
	}
	differs(program, p, l, all, -1)
	// A program that looks at where the record came from differs where that is so.
	from := write(inst.Inst{Code: 0x20, K: 12}, inst.Inst{Code: 0x15, Jt: 1}, inst.Inst{Code: 0x06}, inst.Inst{Code: 0x06, K: toKill})
	differs(from, policy.Policy{Default: kill}, l, []data.Record{record(x86, 0), record(x86, 1), {Arch: x86, Pointer: 1 << 31}, {Arch: x86, Pointer: 1 << 32}}, 3)
	// What a program looks at has the lowest byte first.
	token := write(inst.Inst{Code: 0x20, K: 4}, inst.Inst{Code: 0x15, Jt: 1, K: arm64}, inst.Inst{Code: 0x06, K: toKill}, inst.Inst{Code: 0x06, K: toAllow})
	differs(token, policy.Policy{Default: allow}, l, []data.Record{record(arm64, 0), {}, record(0x8e8c, 0), record(0xb70000c0, 0), record(x86, 0)}, 4)
}

// P23.2: a policy that is not compiled has records at which a program differs, or none, all the same.
func TestDifferNotValid(t *testing.T) {
	l := systab.Builtin()
	p := parsed(t, "default kill\nnope allow\nconnect log if a0 == 3\nconnect allow")
	for _, c := range []struct {
		r    data.Record
		want uint32
	}{{record(i386, 102, 3), toKill}, {record(i386, 362, 3), toLog}, {record(i386, 362, 4), toAllow}, {record(x86, 42, 3), toLog}} {
		for k, want := range map[uint32]int{c.want: -1, c.want + 1: 0} {
			if n, e := judge.Differ(ret(k), p, l, []data.Record{c.r}); n != want || e != api.OK {
				t.Errorf("P23.2: %#x: %d, %d, not %d", c.r, n, e, want)
			}
		}
	}
}

// P23.2, R2: the program's error ahead of the policy's, that ahead of the table's; of no records, too; the number is 0 beside.
func TestDifferWrong(t *testing.T) {
	neg := inst.Inst{Code: 0x84}
	programs := []struct {
		program []byte
		e       api.Errno
	}{
		{[]byte{1}, api.ErrShort},
		{ret(0)[:7], api.ErrShort},
		{make([]byte, 8*api.MaxInst+8), api.ErrLong},
		{nil, api.ErrEmpty},
		{write(neg), api.ErrRet},
		{write(inst.Inst{Code: 0xffff}), api.ErrCode},
		{write(inst.Inst{Code: 0x20, K: 64}, inst.Inst{Code: 0x16}), api.ErrLoad},
		{write(inst.Inst{Code: 0x03, K: 16}, inst.Inst{Code: 0x16}), api.ErrMem},
		{write(inst.Inst{Code: 0x34}, inst.Inst{Code: 0x16}), api.ErrZero},
		{write(inst.Inst{Code: 0x74, K: 32}, inst.Inst{Code: 0x16}), api.ErrShift},
		{write(inst.Inst{Code: 0x15, Jf: 1}, inst.Inst{Code: 0x16}), api.ErrJump},
		{write(inst.Inst{Code: 0x61}, inst.Inst{Code: 0x16}), api.ErrInit},
	}
	right := policy.Policy{Default: kill}
	records := []data.Record{{}, record(x86, 0)}
	fails := func(program []byte, p policy.Policy, l []systab.Row, want api.Errno) {
		t.Helper()
		for n := range 3 {
			if at, e := judge.Differ(program, p, l, records[:n]); at != 0 || e != want {
				t.Errorf("P23.2: of %d records: %d, %d, not %d", n, at, e, want)
			}
		}
	}
	for _, c := range programs {
		fails(c.program, right, systab.Builtin(), c.e)
		fails(c.program, policy.Policy{}, systab.Builtin(), c.e)
		fails(c.program, right, []systab.Row{{}}, c.e)
		fails(c.program, policy.Policy{}, []systab.Row{{}}, c.e)
	}
	for _, p := range wrongPolicies() {
		fails(ret(toKill), p, systab.Builtin(), api.ErrForm)
		fails(ret(toKill), p, []systab.Row{{}}, api.ErrForm)
	}
	for _, l := range wrongTables() {
		fails(ret(toKill), right, l, api.ErrState)
	}
}

// chance tells numbers that are the same each time.
type chance uint64

func (c *chance) below(n int) int {
	*c = *c*6364136223846793005 + 1442695040888963407
	mixed := uint64(*c>>32) ^ uint64(*c>>47)
	return int((mixed * 0x9e3779b97f4a7c15 >> 33) % uint64(n))
}

// values tells few, those that are multiplexers' numbers of fewRows' names among them.
func values() []uint64 {
	return []uint64{0, 1, 2, 3, 9, 13, 1 << 32, 1<<32 + 1, 1<<32 + 3, math.MaxUint32, 1 << 63, math.MaxUint64}
}

// names tells some of the built-in table, of all kinds: in all ABIs, in some, and with a multiplexer, too, or alone.
func names() []string {
	return []string{"connect", "execve", "getuid", "mmap2", "msgget", "open", "ptrace", "read", "send"}
}

// fewRows tells the built-in table's rows of these names.
func fewRows() []systab.Row {
	return slices.DeleteFunc(systab.Builtin(), func(r systab.Row) bool { return !slices.Contains(names(), r.Name) })
}

// policy tells one that may be; of those that have no conditions for names with a multiplexer most have a program.
func (c *chance) policy(muxed bool) policy.Policy {
	actions := []act.Action{{Kind: 1}, {Kind: 3}, {Kind: 4, Number: 1}, {Kind: 6, Number: 2}, {Kind: 7}, {Kind: 8}, {Kind: 2}}
	p := policy.Policy{Default: actions[c.below(7)], X32: c.below(2) == 0}
	for range c.below(12) {
		name := names()[c.below(9)]
		r := rule(name, actions[c.below(7)])
		row, _, _ := systab.Find(systab.Builtin(), name)
		for range c.below(1 + c.below(4)) {
			if muxed || row.Mux == 0 {
				d := cond.Cond{Arg: c.below(2), Op: 1 + c.below(7), Value: values()[c.below(12)]}
				if d.Op == 7 {
					d.Mask = values()[c.below(12)]
					d.Value &= d.Mask
				}
				r.Conds = append(r.Conds, d)
			}
		}
		p.Rules = append(p.Rules, r)
	}
	return p
}

// record tells one of a row's number, or near it, or of a multiplexer, seldom of no token.
func (c *chance) record(l []systab.Row) data.Record {
	archs := []uint32{x86, x86, x86, i386, i386, i386, arm64, riscv64}
	r := record(archs[c.below(8)], uint32(l[c.below(len(l))].Numbers[c.below(5)]))
	switch c.below(10) {
	case 0:
		r.Number = []uint32{0, 999, bit - 1, bit, 2 * bit, 3 * bit, noCall, noCall - 1, noCall - 3}[c.below(9)]
	case 1, 2, 3:
		r.Number = []uint32{102, 117, bit + 102, bit + 117}[c.below(4)]
	case 4, 5:
		r.Number |= bit
	}
	if c.below(30) == 0 {
		r.Arch = uint32(c.below(1 << 30))
	}
	r.Pointer = uint64(c.below(1 << 30))
	for at := range r.Args {
		r.Args[at] = values()[c.below(12)]
	}
	return r
}

// toldCall tells a record's reason without its rule and its code, by the rows alone.
func toldCall(l []systab.Row, r data.Record) judge.Reason {
	tokens := map[uint32]int{x86: api.X64, i386: api.I386, arm64: api.Arm64, riscv64: api.Riscv64}
	a, some := tokens[r.Arch]
	if !some {
		return judge.Reason{}
	}
	own := r.Number
	if a == api.X64 && own != noCall && own&bit > 0 {
		a, own = api.X32, own-bit
	}
	x := judge.Reason{Some: true, ABI: a}
	if a == api.I386 {
		x.Mux = map[uint32]int{102: 1, 117: 2}[own]
	}
	for _, row := range l {
		if x.Mux > 0 && row.Mux == x.Mux && row.Sub == int(r.Args[0]%(1<<32)) || x.Mux == 0 && row.Numbers[a] == int(own) {
			x.Name = row.Name
		}
	}
	return x
}

// toldArg: does a condition hold of an argument?
func toldArg(c cond.Cond, n uint64) bool {
	return [...]bool{false, n == c.Value, n != c.Value, n < c.Value, n <= c.Value, n > c.Value, n >= c.Value, n&c.Mask == c.Value}[c.Op]
}

// toldRule: do all conditions of a rule hold of a record of an ABI?
func toldRule(l []cond.Cond, a int, r data.Record) bool {
	for _, c := range l {
		n := r.Args[c.Arg]
		if a == api.I386 {
			n %= 1 << 32
		}
		if !toldArg(c, n) {
			return false
		}
	}
	return true
}

// toldWhy tells the reason that Why ought to tell, word by word from the document, but for its code, and the action.
func toldWhy(p policy.Policy, l []systab.Row, r data.Record) (judge.Reason, act.Action) {
	x := toldCall(l, r)
	x.Rule = -1
	x.Out = x.Some && x.ABI == api.X32 && !p.X32
	if !x.Some || x.Out {
		return x, kill
	}
	for at, one := range p.Rules {
		switch {
		case x.Name == "" || one.Name != x.Name:
		case x.Mux > 0 && len(one.Conds) > 0:
			return x, p.Default
		case toldRule(one.Conds, x.ABI, r):
			x.Rule = at
			return x, one.Action
		}
	}
	return x, p.Default
}

// toldText tells a reason's text.
func toldText(x judge.Reason, a act.Action) string {
	if !x.Some {
		return "none: kill"
	}
	name, end := x.Name, "default"
	if name == "" {
		name = "?"
	}
	if x.Out {
		end = "out"
	}
	if x.Rule >= 0 {
		end = fmt.Sprintf("rule %d", x.Rule)
	}
	return []string{"x86_64", "x32", "i386", "arm64", "riscv64"}[x.ABI] + " " + name + []string{"", " by socketcall", " by ipc"}[x.Mux] + " " + end + ": " + act.Text(a)
}

// P23.1, P23.3: over many policies and records, held against a second telling of the document's words; a reason's code is what the policy judges.
func TestManyReasons(t *testing.T) {
	var c chance
	met := map[string]int{}
	for at := range 1500 {
		l := [][]systab.Row{fewRows(), fewRows()[1:], systab.Builtin()}[at%3]
		p := c.policy(true)
		for range 20 {
			r := c.record(l)
			want, a := toldWhy(p, l, r)
			want.Code, _ = act.Code(a)
			because(t, p, l, r, want, toldText(want, a))
			if code, e := model.Judge(p, l, r); code != want.Code || e != api.OK {
				t.Fatalf("P23.3: %#x: judged %#x, not %#x", r, code, want.Code)
			}
			met[fmt.Sprint(want.Some, want.ABI, want.Name != "", want.Mux, want.Out, want.Rule >= 0)]++
		}
		if t.Failed() {
			t.Fatalf("by %s", brief(p))
		}
	}
	if len(met) != 24 || slices.Min(slices.Collect(maps.Values(met))) < 20 {
		t.Errorf("kinds of reasons: %v", met)
	}
}

// P23.3: a compiled program differs from its policy at no record: at no probe of its table, and at no other.
func TestCompiled(t *testing.T) {
	c, l := chance(1), fewRows()
	programs, others := 0, 0
	probes := judge.Probes(l)
	var last policy.Policy
	for range 700 {
		p := c.policy(false)
		o, e := build.Policy(p, l)
		if e != api.OK {
			continue
		}
		programs++
		records := slices.Clone(probes)
		for range 30 {
			records = append(records, c.record(l))
		}
		if n, e := judge.Differ(o.Program, p, l, records); n != -1 || e != api.OK {
			t.Fatalf("P23.3: %d, %d, of %s", n, e, brief(p))
		}
		// P23.2: of the policy ahead it mostly does; what is told is the first one.
		n, e := judge.Differ(o.Program, last, l, records)
		if want := firstOther(o.Program, last, l, records); programs > 1 && (n != want || e != api.OK) {
			t.Fatalf("P23.2: %d, %d, not %d, of %s", n, e, want, brief(last))
		}
		if n > 0 {
			others++
		}
		last = p
	}
	if programs < 200 || others < 20 {
		t.Errorf("%d programs, %d others", programs, others)
	}
}

// firstOther tells the first record of which a program tells something else than the second telling of the document's words; -1 without.
func firstOther(program []byte, p policy.Policy, l []systab.Row, records []data.Record) int {
	for at, r := range records {
		_, a := toldWhy(p, l, r)
		want, _ := act.Code(a)
		b := data.Write(r, false)
		if code, _ := build.Run(program, b[:]); code != want {
			return at
		}
	}
	return -1
}

// P23.3: of the built-in table, with a rule for each name.
func TestCompiledAll(t *testing.T) {
	l := systab.Builtin()
	text := ""
	for at, r := range l {
		text += fmt.Sprintf("\n%s errno %d", r.Name, at+1)
		if r.Mux == 0 && at%2 == 0 {
			text += " if a0 == 0"
		}
	}
	for _, ahead := range []string{"default kill", "default allow\nx32 on", "default errno 4"} {
		p := parsed(t, ahead+text)
		if n, e := judge.Differ(built(t, p, l), p, l, judge.Probes(l)); n != -1 || e != api.OK {
			t.Errorf("P23.3: %q: %d, %d", ahead, n, e)
		}
	}
}

// R4, R5: what is handed in stays as it is, the room behind its end, too; what is handed out is new each time, and the same.
func TestMemory(t *testing.T) {
	table := append(systab.Builtin(), row("z"))
	wasTable := slices.Clone(table)
	conds := []cond.Cond{{Arg: 3, Op: 4, Value: 9}, {Op: 5, Value: 2}, is(7)}
	wasConds := slices.Clone(conds)
	rules := []policy.Rule{rule("write", allow, conds[:2]...), rule("read", kill), rule("connect", log), rule("open", kill)}
	wasRules := slices.Clone(rules)
	p, l := policy.Policy{Default: log, Rules: rules[:3]}, table[:len(table)-1]
	program := built(t, p, l)
	wasProgram := slices.Clone(program)
	first, second := judge.Probes(l), judge.Probes(l)
	if !slices.Equal(first, second) {
		t.Error("R5: not the same")
	}
	for range 2 {
		if n, e := judge.Differ(program, p, l, first[:50]); n != -1 || e != api.OK {
			t.Errorf("R5: %d, %d", n, e)
		}
		because(t, p, l, record(x86, 1, 3, 0, 0, 9), judge.Reason{Some: true, Name: "write", Code: toAllow}, "x86_64 write rule 0: allow")
	}
	if !slices.Equal(program, wasProgram) || !slices.Equal(first, second) {
		t.Error("R4: what was handed in has changed")
	}
	clear(first[:cap(first)])
	if third := judge.Probes(l); !slices.Equal(third, second) {
		t.Error("R4: what was handed out is not new")
	}
	sameRule := func(a, b policy.Rule) bool {
		return policy.Same(policy.Policy{Rules: []policy.Rule{a}}, policy.Policy{Rules: []policy.Rule{b}})
	}
	if !slices.Equal(table, wasTable) || !slices.Equal(conds, wasConds) || !slices.EqualFunc(rules, wasRules, sameRule) {
		t.Error("R4: what was handed in has changed")
	}
}

// R1: the greatest table, and a program as long as it may be.
func TestGreatest(t *testing.T) {
	var l []systab.Row
	for at := range api.MaxRows {
		r := systab.Row{Name: fmt.Sprintf("n%03d", at), Numbers: [5]int{at, 1<<30 - 1 - at, 1000 + at, 2 * at, 3 * at}}
		r.Mux, r.Sub = 1+at%2, 1+at/2
		l = append(l, r)
	}
	all := judge.Probes(l)
	if len(all) != 6*api.MaxRows+6 || all[6*api.MaxRows-1] != record(i386, 117, 200) {
		t.Errorf("P23.1: %d probes", len(all))
	}
	long := slices.Repeat([]inst.Inst{{Code: 0x05}}, api.MaxInst-1)
	program := write(append(long, inst.Inst{Code: 0x06, K: toKill})...)
	p := policy.Policy{Default: kill, Rules: []policy.Rule{rule("n399", allow)}}
	if n, e := judge.Differ(program, p, l, all[380:420]); n != 19 || e != api.OK {
		t.Errorf("P23.2: %d, %d", n, e)
	}
}
