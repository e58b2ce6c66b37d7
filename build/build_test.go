package build_test

import (
	"bytes"
	"fmt"
	"maps"
	"math"
	"slices"
	"sort"
	"strings"
	"testing"

	"strainer/abi"
	"strainer/act"
	"strainer/api"
	"strainer/asm"
	"strainer/build"
	"strainer/cond"
	"strainer/data"
	"strainer/gen"
	"strainer/inst"
	"strainer/model"
	"strainer/mux"
	"strainer/norm"
	"strainer/policy"
	"strainer/resolve"
	"strainer/systab"
	"strainer/vm"
)

const (
	bit    = 0x40000000
	noCall = 0xffffffff
	half   = math.MaxUint32
	most   = math.MaxUint64
)

// The tokens.
const (
	x86     = 0xc000003e
	i386    = 0x40000003
	arm64   = 0xc00000b7
	riscv64 = 0xc00000f3
)

// Codes of actions.
const (
	toKill  = 0x80000000
	toTrap  = 0x00030000
	toErrno = 0x00050000
	toTrace = 0x7ff00000
	toLog   = 0x7ffc0000
	toAllow = 0x7fff0000
)

// Actions that the tests put.
var (
	kill  = act.Action{Kind: 1}
	allow = act.Action{Kind: 8}
)

func errno(n int) act.Action { return act.Action{Kind: 4, Number: n} }

func rule(name string, a act.Action, l ...cond.Cond) policy.Rule {
	return policy.Rule{Name: name, Action: a, Conds: l}
}

// is tells the condition that argument 0 is a value.
func is(value uint64) cond.Cond { return cond.Cond{Op: 1, Value: value} }

// brief tells a thing's beginning.
func brief(a any) string { return fmt.Sprintf("%.600s", fmt.Sprintf("%+v", a)) }

// record tells a record of a token, a number, and arguments.
func record(arch, number uint32, args ...uint64) data.Record {
	r := data.Record{Number: number, Arch: arch}
	copy(r.Args[:], args)
	return r
}

// parsed tells the policy of a text.
func parsed(t *testing.T, text string) policy.Policy {
	t.Helper()
	p, at, e := policy.Parse(text)
	if e != api.OK {
		t.Fatalf("Parse of %q: %d, %d", text, at, e)
	}
	return p
}

// built tells the program of a policy that has one.
func built(t *testing.T, p policy.Policy, l []systab.Row) []byte {
	t.Helper()
	o, e := build.Policy(p, l)
	if e != api.OK || o.Line != 0 || o.Rule != 0 || len(o.Program) == 0 {
		t.Fatalf("P22.1: %s, %d, of %s", brief(o), e, brief(p))
	}
	return o.Program
}

// compiled tells the program of a text that has one, of the built-in table.
func compiled(t *testing.T, text string) []byte {
	t.Helper()
	o, e := build.Compile(text, systab.Builtin())
	if e != api.OK || o.Line != 0 || o.Rule != 0 || len(o.Program) == 0 {
		t.Fatalf("P22.1: %s, %d, of %q", brief(o), e, text)
	}
	return o.Program
}

// tells holds a program to what it tells of a record.
func tells(t *testing.T, program []byte, r data.Record, want uint32) {
	t.Helper()
	b := data.Write(r, false)
	if code, e := build.Run(program, b[:]); e != api.OK || code != want {
		t.Errorf("P22.2: %#x: %#x, %d, not %#x", r, code, e, want)
	}
}

// P22.1: the document's example.
func TestExample(t *testing.T) {
	program := compiled(t, "default kill\nread allow")
	tells(t, program, record(x86, 0), toAllow)
	tells(t, program, record(x86, 1), toKill)
	for arch, number := range map[uint32]uint32{x86: 0, i386: 3, arm64: 63, riscv64: 63} {
		for n := range uint32(600) {
			want := uint32(toKill)
			if n == number {
				want = toAllow
			}
			tells(t, program, record(arch, n), want)
		}
	}
}

// P1 to P3: the ten examples of the whole, as far as they run a program.
func TestTenExamples(t *testing.T) {
	program := compiled(t, "default errno 38\nread allow\nwrite allow if a0 <= 2\nconnect kill")
	tells(t, program, record(x86, 0), toAllow)
	tells(t, program, record(x86, 1, 3), toErrno+38)
	tells(t, program, record(x86, 1, 2), toAllow)
	tells(t, program, record(x86, 1, 1<<32+1), toErrno+38)
	tells(t, program, record(i386, 4, 0x100000001), toAllow)
	tells(t, program, record(i386, 102, 3), toKill)
	tells(t, program, record(i386, 102, 1<<32+3), toKill)
	tells(t, program, record(x86, 0x40000000), toKill)
}

// P2: a record of none of the four tokens is killed; x32's numbers are x32's alone; the number of no call gets the default.
func TestApart(t *testing.T) {
	text := "default errno 1\nx32 on\nioctl log\nread allow\nexecve trap if a1 > 4294967296"
	in, out := compiled(t, text), compiled(t, strings.Replace(text, "on", "off", 1))
	for n := range 32 {
		for _, arch := range []uint32{x86, i386, arm64, riscv64, 0} {
			for _, number := range []uint32{0, 3, 63, 102, bit, bit + 514, noCall} {
				switch other := arch ^ 1<<n; other {
				case x86, i386, arm64, riscv64:
				default:
					tells(t, in, record(other, number, 3), toKill)
					tells(t, out, record(other, number, 3), toKill)
				}
			}
		}
	}
	for number, want := range map[uint32]uint32{bit + 514: toLog, bit + 16: toErrno + 1, bit: toAllow, bit + 520: toTrap, bit + 59: toErrno + 1, 2*bit - 1: toErrno + 1, 3 * bit: toErrno + 1, noCall - 1: toErrno + 1} {
		r := record(x86, number, 0, 1<<33)
		tells(t, in, r, want)
		tells(t, out, r, toKill)
		// The bit is of x86_64's token alone.
		for _, arch := range []uint32{i386, arm64, riscv64} {
			r.Arch = arch
			tells(t, in, r, toErrno+1)
			tells(t, out, r, toErrno+1)
		}
	}
	for _, program := range [][]byte{in, out} {
		for _, arch := range []uint32{x86, i386, arm64, riscv64} {
			tells(t, program, record(arch, noCall, 3), toErrno+1)
		}
		tells(t, program, record(x86, 16), toLog)
		tells(t, program, record(x86, 514), toErrno+1)
		tells(t, program, record(x86, 59, 0, 1<<33), toTrap)
		tells(t, program, record(x86, 2*bit), toErrno+1)
	}
}

// P3: a multiplexed call gets what its name gets; an unlisted one the default.
func TestMultiplexed(t *testing.T) {
	program := compiled(t, "default errno 1\nconnect allow\nsend trap\nsemop log\ngetuid log\nptrace log")
	for _, c := range []struct {
		number    uint32
		sub, want uint64
	}{{102, 3, toAllow}, {102, 1<<32 + 3, toAllow}, {102, 9, toTrap}, {102, half<<32 + 9, toTrap}, {102, 2, toErrno + 1}, {102, 0, toErrno + 1}, {102, 3 << 32, toErrno + 1}, {102, 1, toErrno + 1}, {102, 99, toErrno + 1}, {102, most, toErrno + 1}, {117, 1, toLog}, {117, 1<<63 + 1, toLog}, {117, 3, toErrno + 1}, {117, 9, toErrno + 1}, {117, 0, toErrno + 1}} {
		tells(t, program, record(i386, c.number, c.sub, 7, 7, 7, 7, 7), uint32(c.want))
	}
	tells(t, program, record(i386, 362, 9), toAllow)
	// 102 and 117 are multiplexers of i386 alone.
	tells(t, program, record(x86, 102, 3), toLog)
	tells(t, program, record(x86, 117, 1), toErrno+1)
	tells(t, program, record(arm64, 117, 1), toLog)
	tells(t, program, record(riscv64, 102, 3), toErrno+1)
}

// row tells one of a name that is absent everywhere.
func row(name string) systab.Row { return systab.Row{Name: name, Numbers: [5]int{-1, -1, -1, -1, -1}} }

// P22.1: layer 18's errors, with the rule's number alone beside.
func TestPolicyErrors(t *testing.T) {
	l := systab.Builtin()
	twice := []systab.Row{row("read"), row("read")}
	for at, c := range []struct {
		p    policy.Policy
		l    []systab.Row
		rule int
		e    api.Errno
	}{
		{policy.Policy{}, l, 0, api.ErrForm},
		{policy.Policy{Default: act.Action{Kind: 4, Number: 4096}}, l, 0, api.ErrForm},
		{policy.Policy{Default: kill, Rules: []policy.Rule{rule("read", allow), rule("READ", allow)}}, l, 0, api.ErrForm},
		{policy.Policy{Default: kill, Rules: []policy.Rule{rule("read", allow), rule("open", allow, slices.Repeat([]cond.Cond{is(1)}, 7)...)}}, l, 0, api.ErrForm},
		{policy.Policy{Default: kill, Rules: slices.Repeat([]policy.Rule{rule("read", allow)}, 501)}, l, 0, api.ErrForm},
		{policy.Policy{}, twice, 0, api.ErrForm}, // the policy ahead of the table
		{policy.Policy{Default: kill}, twice, 0, api.ErrState},
		{policy.Policy{Default: kill, Rules: []policy.Rule{rule("read", allow), rule("nope", allow)}}, twice, 0, api.ErrState},
		{policy.Policy{Default: kill}, slices.Repeat([]systab.Row{row("read")}, 401), 0, api.ErrState},
		{parsed(t, "default kill\nread allow\nnope allow\nnada allow"), l, 1, api.ErrName},
		{parsed(t, "default kill\nread allow"), nil, 0, api.ErrName},
		{parsed(t, "default kill\nopen allow\nwrite allow\nread allow if a0 & 1 == 2"), l, 2, api.ErrRange},
		{parsed(t, "default kill\nread allow\nwrite allow\nclose allow\nread log"), l, 3, api.ErrTwice},
		{parsed(t, "default kill\nread allow if a0 == 1 and a1 == 2\nread log if a1 == 2 and a0 == 1"), l, 1, api.ErrTwice},
		{parsed(t, "default kill\nread allow\nconnect log if a0 == 1\nbind log if a0 == 1"), l, 1, api.ErrMux},
		{parsed(t, "default kill\nconnect log if a0 >= 0"), l, 0, api.ErrMux},
		{parsed(t, "default kill\nread allow\nrecv kill if a0 == 1"), l, 1, api.ErrMux},
		{parsed(t, "default kill\nconnect log if a0 == 1\nread allow\nread allow"), l, 2, api.ErrTwice}, // layer 15's ahead
	} {
		if o, e := build.Policy(c.p, c.l); e != c.e || o.Rule != c.rule || o.Line != 0 || o.Program != nil {
			t.Errorf("P22.1: %d: %s, %d, not %d, %d", at, brief(o), e, c.rule, c.e)
		}
	}
}

// P22.1: layer 14's errors of a text, with the line alone beside; behind them Policy's.
func TestCompileErrors(t *testing.T) {
	l := systab.Builtin()
	many := "default kill" + strings.Repeat("\nread allow", 500)
	for at, c := range []struct {
		text       string
		l          []systab.Row
		line, rule int
		e          api.Errno
	}{
		{"", l, 0, 0, api.ErrEmpty},
		{" \n# none\n", l, 0, 0, api.ErrEmpty},
		{strings.Repeat(" ", api.MaxText+1), l, 0, 0, api.ErrLong},
		{"default kill\n\n\x01", l, 3, 0, api.ErrForm},
		{"read allow", l, 1, 0, api.ErrForm},
		{"default kill\ndefault kill", l, 2, 0, api.ErrForm},
		{"default kill\nread deny", l, 2, 0, api.ErrName},
		{"default errno 4096", l, 1, 0, api.ErrRange},
		{"default kill\n\nread allow\nx32 on", l, 4, 0, api.ErrForm},
		{"default kill\nread allow if a6 == 1", l, 2, 0, api.ErrRange},
		{"default kill\nread allow if a0 == 1 and a0 == 2 and a0 == 3 and a0 == 4 and a0 == 5 and a0 == 6 and a0 == 7", l, 2, 0, api.ErrLong},
		{many + "\nread allow", l, 502, 0, api.ErrLong},
		// Of the text all is told ahead of what the policy means.
		{"default kill\nnope allow\nread deny", l, 3, 0, api.ErrName},
		{"default kill\nread deny", []systab.Row{{}}, 2, 0, api.ErrName},
		{"default kill\nread allow", []systab.Row{{}}, 0, 0, api.ErrState},
		{"default kill\nread allow\n\n\nnope allow", l, 0, 1, api.ErrName},
		{"default kill\n\n\nread allow if a0 & 4 == 1", l, 0, 0, api.ErrRange},
		{many, l, 0, 1, api.ErrTwice},
		{"default kill\nread allow\nclose log\nbind allow if a0 == 1", l, 0, 2, api.ErrMux},
	} {
		if o, e := build.Compile(c.text, c.l); e != c.e || o.Line != c.line || o.Rule != c.rule || o.Program != nil {
			t.Errorf("P22.1: %d: %s, %d, not %d, %d, %d", at, brief(o), e, c.line, c.rule, c.e)
		}
	}
}

// P22.1: what a text's policy has, the text has.
func TestCompile(t *testing.T) {
	l := systab.Builtin()
	for _, text := range []string{"default allow", "default kill\nread allow", "default errno 38 # else\n\n\tx32  on\r\nread   log if a0 == 0x10 # c\n", "default trap\nconnect allow\nopen trace 7 if a1 & 3 == 2 and a2 > 5\nopen log"} {
		if program := compiled(t, text); !bytes.Equal(program, built(t, parsed(t, text), l)) {
			t.Errorf("P22.1: not the same of %q", text)
		}
	}
}

// rows tells a table of so many names, with a number in all ABIs, and without multiplexers.
func rows(n int) []systab.Row {
	var l []systab.Row
	for at := range n {
		l = append(l, systab.Row{Name: fmt.Sprintf("n%03d", at), Numbers: [5]int{at, 1<<30 - 1 - at, 1000 + 3*at, 2 * at, 7 * at}})
	}
	return l
}

// size tells how many instructions the program of a valid policy has, however many.
func size(t *testing.T, p policy.Policy, l []systab.Row) int {
	t.Helper()
	plan, _, e := resolve.Resolve(p, l)
	if e != api.OK {
		t.Fatalf("Resolve of %s: %d", brief(p), e)
	}
	return asm.Size(gen.Items(plan))
}

// P22.1: a program has at most 4096 instructions; of a longer one ErrLong, and no rule.
func TestLong(t *testing.T) {
	l := rows(api.MaxRows)
	p := policy.Policy{Default: kill}
	for at := range api.MaxRules - 1 {
		p.Rules = append(p.Rules, rule("n000", errno(at), is(uint64(at)<<32+1), cond.Cond{Arg: 1, Op: 1, Value: uint64(at)<<32 + 1}))
	}
	all := p.Rules
	most := sort.Search(len(all), func(n int) bool {
		p.Rules = all[:n]
		return size(t, p, l) > api.MaxInst
	})
	sizes := map[int]bool{}
	// One more rule, of another name, has few instructions or more, by its conditions: so the bound is met from both sides.
	for rules := most - 3; rules <= most; rules++ {
		for conds := range 7 {
			for _, c := range []cond.Cond{is(5), {Op: 7, Mask: 1 << 32}, {Op: 3, Value: 1 << 40}} {
				more := rule("n001", allow)
				for c.Arg = range conds {
					more.Conds = append(more.Conds, c)
				}
				p.Rules = append(all[:rules:rules], more)
				n := size(t, p, l)
				sizes[n] = true
				o, e := build.Policy(p, l)
				if n <= api.MaxInst && (e != api.OK || len(o.Program) != 8*n) {
					t.Errorf("P22.1: %d bytes, %d, of %d instructions", len(o.Program), e, n)
				}
				if n > api.MaxInst && (e != api.ErrLong || o.Program != nil || o.Rule != 0 || o.Line != 0) {
					t.Errorf("P22.1: %s, %d, of %d instructions", brief(o), e, n)
				}
			}
		}
	}
	if !sizes[api.MaxInst] || !sizes[api.MaxInst+1] {
		t.Errorf("sizes %v", slices.Sorted(maps.Keys(sizes)))
	}
}

// P22.1: a policy of a size of at most 40 always has a program: of many rules without conditions, of few with many, and of all between; of one name, and of many.
func TestSmall(t *testing.T) {
	l := rows(api.MaxRows)
	for at := range l[:200] {
		l[at].Mux, l[at].Sub = 1+at%2, 1+at/2
	}
	asked := []cond.Cond{{Op: 1, Value: 5<<32 + 5}, {Op: 2, Value: 7<<32 + 7}, {Op: 3, Value: 9<<32 + 9}, {Op: 4, Value: 3<<32 + 3}, {Op: 5, Value: 4<<32 + 4}, {Op: 6, Value: 2<<32 + 2}, {Op: 7, Mask: 3<<32 + 6, Value: 1<<32 + 2}}
	for perRule := range 7 {
		for perName := 1; perName <= 40; perName++ {
			for _, step := range []int{1, 9} {
				p := policy.Policy{Default: kill, X32: true}
				for n := 0; (n+1)*(perRule+1) <= 40; n++ {
					at := n / perName * step
					if perRule > 0 { // of a name with a multiplexer no arguments are asked
						at += 200
					}
					r := rule(l[at%api.MaxRows].Name, errno(n))
					for arg := range perRule {
						c := asked[(n+arg)%7]
						c.Arg = arg
						c.Value += uint64(n*8) << 32
						c.Mask += uint64(n*8) << 32 * uint64(c.Op/7)
						r.Conds = append(r.Conds, c)
					}
					p.Rules = append(p.Rules, r)
					if perRule == 0 && perName > 1 {
						break
					}
				}
				built(t, p, l)
			}
		}
	}
}

// P22.1: the program's bytes are layer 2's of the instructions that layers 18, 20 and 21 tell.
func TestProgram(t *testing.T) {
	c, l := chance(1), fewRows()
	for range 500 {
		p := c.policy(l)
		plan, at, e := resolve.Resolve(p, l)
		o, fault := build.Policy(p, l)
		if e != api.OK {
			if fault != e || o.Rule != at || o.Program != nil {
				t.Fatalf("P22.1: %s, %d, of %s", brief(o), fault, brief(p))
			}
			continue
		}
		program, e := asm.Assemble(gen.Items(plan))
		if e != fault || !bytes.Equal(o.Program, inst.Write(program)) {
			t.Fatalf("P22.1: %s, %d, of %s", brief(o), fault, brief(p))
		}
	}
}

// write tells the bytes of instructions.
func write(l ...inst.Inst) []byte { return inst.Write(l) }

// P22.1: the errors of a program's bytes, then of its instructions, then of the record's bytes; the number is 0 beside.
func TestRunErrors(t *testing.T) {
	right := write(inst.Inst{Code: 0x06, K: 7})
	neg := inst.Inst{Code: 0x84}
	for at, c := range []struct {
		program []byte
		record  int
		e       api.Errno
	}{
		{[]byte{1}, 0, api.ErrShort},
		{[]byte{1}, 64, api.ErrShort},
		{right[:7], 64, api.ErrShort},
		{append(slices.Clone(right), 0), 64, api.ErrShort},
		{make([]byte, 8*api.MaxInst+1), 64, api.ErrLong},
		{make([]byte, 8*api.MaxInst+8), 0, api.ErrLong},
		{nil, 64, api.ErrEmpty},
		{[]byte{}, 0, api.ErrEmpty},
		{write(neg), 64, api.ErrRet},
		{write(neg), 63, api.ErrRet},
		{write(inst.Inst{Code: 0xffff}), 64, api.ErrCode},
		{write(inst.Inst{Code: 0x20, K: 2}, inst.Inst{Code: 0x16}), 65, api.ErrLoad},
		{write(inst.Inst{Code: 0x02, K: 16}, inst.Inst{Code: 0x16}), 64, api.ErrMem},
		{write(inst.Inst{Code: 0x34}, inst.Inst{Code: 0x16}), 64, api.ErrZero},
		{write(inst.Inst{Code: 0x64, K: 32}, inst.Inst{Code: 0x16}), 64, api.ErrShift},
		{write(inst.Inst{Code: 0x05}), 64, api.ErrJump},
		{write(inst.Inst{Code: 0x60, K: 3}, inst.Inst{Code: 0x16}), 64, api.ErrInit},
		{right, 0, api.ErrShort},
		{right, 63, api.ErrShort},
		{right, 65, api.ErrLong},
		{right, 128, api.ErrLong},
	} {
		if code, e := build.Run(c.program, make([]byte, c.record)); code != 0 || e != c.e {
			t.Errorf("P22.1: %d: %d, %d, not %d", at, code, e, c.e)
		}
	}
	if code, e := build.Run(right, nil); code != 0 || e != api.ErrShort {
		t.Errorf("P22.1: of no record: %d, %d", code, e)
	}
}

// P22.1: Run tells what a run tells, also of a program that nobody compiled, and of one that is as long as it may be.
func TestRun(t *testing.T) {
	r := data.Write(record(5, 7, 0x0102030405060708), false)
	long := slices.Repeat([]inst.Inst{{Code: 0x04, K: 3}}, api.MaxInst-1)
	for at, c := range []struct {
		program []byte
		want    uint32
	}{
		{write(inst.Inst{Code: 0x06, K: 7}), 7},
		{write(inst.Inst{Code: 0x16}), 0},
		{write(inst.Inst{Code: 0x20}, inst.Inst{Code: 0x16}), 7},
		{write(inst.Inst{Code: 0x20, K: 20}, inst.Inst{Code: 0x16}), 0x01020304},
		{write(inst.Inst{Code: 0x00, K: 9}, inst.Inst{Code: 0x3c}, inst.Inst{Code: 0x06, K: 7}), 0}, // divided by X, which is 0
		{write(inst.Inst{Code: 0x20, K: 4}, inst.Inst{Code: 0x15, Jf: 1, K: 5}, inst.Inst{Code: 0x06, K: 1}, inst.Inst{Code: 0x06, K: 2}), 1},
		{write(append(long, inst.Inst{Code: 0x16})...), 3 * (api.MaxInst - 1)},
	} {
		if code, e := build.Run(c.program, r[:]); code != c.want || e != api.OK {
			t.Errorf("P22.1: %d: %d, %d, not %d", at, code, e, c.want)
		}
	}
}

// chance tells numbers that are the same each time.
type chance uint64

func (c *chance) below(n int) int {
	*c = *c*6364136223846793005 + 1442695040888963407
	mixed := uint64(*c>>32) ^ uint64(*c>>47)
	return int((mixed * 0x9e3779b97f4a7c15 >> 33) % uint64(n))
}

// fewRows tells rows of the built-in table, of all kinds: in all ABIs, in some, and with a multiplexer, too, or alone.
func fewRows() []systab.Row {
	names := []string{"accept", "connect", "execve", "getuid", "mmap2", "msgget", "open", "ptrace", "read", "riscv_flush_icache", "semop", "send", "write"}
	return slices.DeleteFunc(systab.Builtin(), func(r systab.Row) bool { return !slices.Contains(names, r.Name) })
}

// table tells one that may be: numbers close to one another, and at both ends.
func (c *chance) table(t *testing.T) []systab.Row {
	t.Helper()
	met := map[[2]int]bool{}
	once := func(where, n int) bool {
		was := met[[2]int{where, n}]
		met[[2]int{where, n}] = true
		return !was
	}
	var l []systab.Row
	for at := range c.below(30) {
		r := row(fmt.Sprintf("c%02d", at))
		for a := range r.Numbers {
			n := c.below(130)
			switch c.below(10) {
			case 0, 1:
				n = 1<<30 - 1 - c.below(3)
			case 2, 3:
				continue
			}
			if once(a, n) && !(a == api.I386 && (n == 102 || n == 117)) {
				r.Numbers[a] = n
			}
		}
		if m, n := 1+c.below(2), []int{1, 2, 3, 4, 5, 100, 101, 254, 255}[c.below(9)]; c.below(3) == 0 && once(10+m, n) {
			r.Mux, r.Sub = m, n
		}
		l = append(l, r)
	}
	if _, e := systab.Right(l); e != api.OK {
		t.Fatalf("no table: %d", e)
	}
	return l
}

// values tells few values, on both sides of each border.
func values() []uint64 {
	return []uint64{0, 1, 2, 3, 1 << 31, half - 1, half, half + 1, half + 2, half + 3, 5<<32 + 7, 1 << 63, 1<<63 + 1, most - half, most - half + 1, most - 1, most}
}

// arguments tells values near one: itself, its neighbours, its halves apart, the one for the other, and each near it.
func arguments(v uint64) []uint64 {
	low, high := v&half, v>>32
	l := []uint64{v, v - 1, v + 1, low, high << 32, low<<32 + high, v ^ 1<<31, v ^ 1<<32, v ^ 1<<63, ^v, 0, most, half, half << 32}
	for _, h := range []uint64{high - 1, high, high + 1} {
		for _, w := range []uint64{0, low - 1, low, low + 1, half} {
			l = append(l, h<<32|w&half)
		}
	}
	return l
}

// cond tells a right condition, whose value has no bits beside its mask.
func (c *chance) cond() cond.Cond {
	few := values()
	d := cond.Cond{Arg: c.below(6), Op: 1 + c.below(7), Value: few[c.below(len(few))]}
	if d.Op == 7 {
		d.Mask = few[c.below(len(few))]
		d.Value &= d.Mask
	}
	return d
}

// policy tells one that may be, and that mostly has a program.
func (c *chance) policy(l []systab.Row) policy.Policy {
	actions := []act.Action{{Kind: 1}, {Kind: 2}, {Kind: 3}, {Kind: 4, Number: 1}, {Kind: 4, Number: 4095}, {Kind: 5}, {Kind: 6, Number: 65535}, {Kind: 7}, {Kind: 8}}
	p := policy.Policy{Default: actions[c.below(9)], X32: c.below(2) == 0}
	if len(l) == 0 {
		return p
	}
	ended := map[string]bool{}
	for range c.below(25) {
		row := l[c.below(len(l))]
		r := policy.Rule{Name: row.Name, Action: actions[c.below(9)]}
		if ended[r.Name] {
			continue
		}
		for range c.below(5) {
			if row.Mux == 0 {
				r.Conds = append(r.Conds, c.cond())
			}
		}
		ended[r.Name] = len(r.Conds) == 0
		p.Rules = append(p.Rules, r)
	}
	return p
}

// argument tells one near what a policy asks, or any.
func (c *chance) argument(p policy.Policy) uint64 {
	if len(p.Rules) > 0 {
		if asked := p.Rules[c.below(len(p.Rules))].Conds; len(asked) > 0 {
			few := arguments(asked[c.below(len(asked))].Value)
			return few[c.below(len(few))]
		}
	}
	return uint64(c.below(26)) + uint64(c.below(2))<<32
}

// record tells one, seldom of no token, of a number of a policy's, or near one, or any.
func (c *chance) record(p policy.Policy, l []systab.Row) data.Record {
	a := c.below(5)
	r := data.Record{Arch: []uint32{x86, x86, i386, arm64, riscv64}[a], Pointer: uint64(c.below(1 << 30))}
	one := row("none")
	if len(l) > 0 {
		one = l[c.below(len(l))]
	}
	if len(p.Rules) > 0 && c.below(4) > 0 {
		one, _, _ = systab.Find(l, p.Rules[c.below(len(p.Rules))].Name)
	}
	r.Number = abi.Whole(a, uint32(one.Numbers[a]))
	switch c.below(12) {
	case 0:
		r.Number = []uint32{0, 999, bit - 1, bit, 2 * bit, 3 * bit, noCall, noCall - 1, noCall - 3}[c.below(9)]
	case 1, 2:
		r.Number = []uint32{102, 117, bit + 102, bit + 117}[c.below(4)]
	case 3:
		r.Number += uint32(c.below(3) - 1)
	case 4:
		r.Number ^= 1 << c.below(32)
	case 5:
		r.Arch ^= 1 << c.below(32)
	}
	for at := range r.Args {
		r.Args[at] = c.argument(p)
	}
	if mux.Kind(r.Number) > 0 && one.Mux > 0 && c.below(8) > 0 {
		r.Args[0] = uint64(one.Sub) + uint64(c.below(2))<<32
	}
	return r
}

// mayLoad tells the places of the words that the program of a policy may load, and mayReturn the codes that it may return.
func mayLoad(p policy.Policy) map[int]bool {
	may := map[int]bool{0: true, 4: true, 16: true}
	for _, r := range p.Rules {
		for _, c := range r.Conds {
			may[16+8*c.Arg], may[20+8*c.Arg] = true, true
		}
	}
	return may
}

func mayReturn(p policy.Policy) map[uint32]bool {
	may := map[uint32]bool{toKill: true}
	for _, a := range append([]act.Action{p.Default}, actionsOf(p)...) {
		code, _ := act.Code(a)
		may[code] = true
	}
	return may
}

func actionsOf(p policy.Policy) []act.Action {
	var l []act.Action
	for _, r := range p.Rules {
		l = append(l, r.Action)
	}
	return l
}

// plain holds a policy's program to what it may have: loads that it may load, `and` with a number, jumps and branches by a number, returns that it may return.
func plain(t *testing.T, p policy.Policy, program []inst.Inst) {
	t.Helper()
	loads, returns := mayLoad(p), mayReturn(p)
	for at, i := range program {
		kind, x, ok := inst.Of(i.Code)
		right := ok && !x
		switch kind {
		case inst.Load:
			right = right && loads[int(i.K)]
		case inst.RetK:
			right = right && returns[i.K]
		case inst.And, inst.Jump, inst.Equal, inst.Greater, inst.Least, inst.Common:
		default:
			right = false
		}
		if !right {
			t.Fatalf("P22.2: %d: %+v, of %s", at, i, brief(p))
		}
	}
}

// P22.2: the theorem, over many policies, tables and records; and that each program may run, ends soon, and does nothing but what it may.
func TestTheorem(t *testing.T) {
	var c chance
	programs, codes, kinds := 0, map[uint32]int{}, map[string]int{}
	for at := range 1500 {
		l := fewRows()
		if at%2 > 0 {
			l = c.table(t)
		}
		p := c.policy(l)
		o, e := build.Policy(p, l)
		if e != api.OK {
			continue
		}
		programs++
		program, _ := inst.Read(o.Program)
		plain(t, p, program)
		m, e := vm.New(program)
		if e != api.OK {
			t.Fatalf("P22.2: it may not run: %d, of %s", e, brief(p))
		}
		for range 60 {
			r := c.record(p, l)
			want, _ := model.Judge(p, l, r)
			b := data.Write(r, false)
			out, e := m.Run(b[:])
			if e != api.OK || out.Value != want {
				t.Fatalf("P22.2: %#x: %#x, %d, not %#x, of %s", r, out.Value, e, want, brief(p))
			}
			if out.Steps > len(program) {
				t.Fatalf("P22.2: %d steps of %d instructions", out.Steps, len(program))
			}
			if code, _ := model.Judge(policy.Policy{Default: p.Default, X32: p.X32}, l, r); want != code {
				codes[want]++
			}
			call := mux.Of(l, r)
			kinds[fmt.Sprint(call.Some, call.ABI, call.Name != "", call.Muxed)]++
		}
		b := data.Write(c.record(p, l), false)
		if code, e := build.Run(o.Program, b[:]); e != api.OK || code != told(m, b) {
			t.Fatalf("P22.1: Run: %#x, %d", code, e)
		}
	}
	if programs < 1000 || len(codes) != 9 || slices.Min(slices.Collect(maps.Values(codes))) < 1000 {
		t.Errorf("%d programs, codes %v", programs, codes)
	}
	if len(kinds) != 13 || slices.Min(slices.Collect(maps.Values(kinds))) < 200 {
		t.Errorf("kinds of records: %v", kinds)
	}
}

// told tells what a machine tells of a record.
func told(m *vm.Machine, b [api.RecordSize]byte) uint32 {
	out, _ := m.Run(b[:])
	return out.Value
}

// P22.2: each condition by itself, of all operators, at arguments near each border, in all ABIs.
func TestConditions(t *testing.T) {
	l := []systab.Row{{Name: "call", Numbers: [5]int{1, 2, 3, 4, 5}}}
	var conds []cond.Cond
	for _, v := range values() {
		for op := 1; op < 7; op++ {
			conds = append(conds, cond.Cond{Op: op, Value: v})
		}
		for _, m := range values() {
			conds = append(conds, cond.Cond{Op: 7, Mask: m, Value: v & m})
		}
	}
	for at, c := range conds {
		c.Arg = at % 6
		p := policy.Policy{Default: kill, X32: true, Rules: []policy.Rule{rule("call", allow, c)}}
		program, _ := inst.Read(built(t, p, l))
		plain(t, p, program)
		m, _ := vm.New(program)
		for _, v := range append(arguments(c.Value), arguments(c.Mask)...) {
			r := data.Record{Args: [6]uint64{^v, ^v, ^v, ^v, ^v, ^v}}
			r.Args[c.Arg] = v
			for a, arch := range []uint32{x86, x86, i386, arm64, riscv64} {
				r.Arch, r.Number = arch, abi.Whole(a, uint32(a+1))
				want := uint32(toKill)
				if cond.Holds(c, abi.Args(a, r)) {
					want = toAllow
				}
				if code := told(m, data.Write(r, false)); code != want {
					t.Fatalf("P22.2: %s: %#x: %#x, not %#x", cond.Text(c), r, code, want)
				}
			}
		}
	}
}

// P22.2: all numbers of the built-in table and their neighbours, and all multiplexed calls, of policies with a rule for each name.
func TestAllNumbers(t *testing.T) {
	l := systab.Builtin()
	text := "\nx32 on"
	for at, r := range l {
		text += fmt.Sprintf("\n%s errno %d", r.Name, at+1)
		if r.Mux == 0 {
			text += fmt.Sprintf(" if a1 < 4294967297\n%s trace %d if a2 & 12884901889 == 1", r.Name, at+1)
		}
	}
	for _, text := range []string{"default kill" + text, "default errno 3\nx32 off" + strings.TrimPrefix(text, "\nx32 on")} {
		p := parsed(t, text)
		program, _ := inst.Read(compiled(t, text))
		plain(t, p, program)
		m, e := vm.New(program)
		if e != api.OK {
			t.Fatalf("P22.2: it may not run: %d", e)
		}
		for _, r := range near(l) {
			want, _ := model.Judge(p, l, r)
			if code := told(m, data.Write(r, false)); code != want {
				t.Fatalf("P22.2: %#x: %#x, not %#x", r, code, want)
			}
		}
	}
}

// near tells records of each number of a table, and of its neighbour, with arguments; and all of the multiplexers.
func near(l []systab.Row) []data.Record {
	var all []data.Record
	for _, r := range l {
		for a, arch := range []uint32{x86, x86, i386, arm64, riscv64} {
			for _, n := range []uint32{0, 1} {
				for _, args := range [][]uint64{{0, half + 1, 1}, {1, half + 2, 1<<34 + 1}, {2, half + 2, 1 << 33}} {
					all = append(all, record(arch, abi.Whole(a, uint32(r.Numbers[a])+n), args...))
				}
			}
		}
	}
	for n := range uint64(260) {
		all = append(all, record(i386, 102, n), record(i386, 117, 1<<32+n))
	}
	return all
}

// P22.2: where a record came from does not count, nor what stands in arguments that nobody asks.
func TestFrom(t *testing.T) {
	c, l := chance(3), fewRows()
	for range 100 {
		p := c.policy(l)
		o, e := build.Policy(p, l)
		if e != api.OK {
			continue
		}
		program, _ := inst.Read(o.Program)
		m, _ := vm.New(program)
		for range 10 {
			r := c.record(p, l)
			want := told(m, data.Write(r, false))
			for n := range 64 {
				r.Pointer ^= 1 << n
				if code := told(m, data.Write(r, false)); code != want {
					t.Fatalf("P22.2: %#x: %#x, not %#x", r, code, want)
				}
			}
		}
	}
}

// mixed tells a policy with the rules of different names in another order, those of one name in their own.
func (c *chance) mixed(p policy.Policy) policy.Policy {
	named := map[string][]policy.Rule{}
	for _, r := range p.Rules {
		named[r.Name] = append(named[r.Name], r)
	}
	p.Rules = nil
	for len(named) > 0 {
		names := slices.Sorted(maps.Keys(named))
		name := names[c.below(len(names))]
		p.Rules = append(p.Rules, named[name][0])
		if named[name] = named[name][1:]; len(named[name]) == 0 {
			delete(named, name)
		}
	}
	return p
}

// turned tells a policy with the conditions of each rule the other way round, and one of them once more.
func turned(p policy.Policy) policy.Policy {
	p.Rules = slices.Clone(p.Rules)
	for at, r := range p.Rules {
		l := slices.Clone(r.Conds)
		slices.Reverse(l)
		if len(l) > 0 && len(l) < api.MaxConds {
			l = append(l, l[0])
		}
		p.Rules[at].Conds = l
	}
	return p
}

// P22.2, P5: a policy, its normal form, its own text, and one with rules of different names in another order make the same bytes.
func TestSameBytes(t *testing.T) {
	var c chance
	programs := 0
	for at := range 400 {
		l := fewRows()
		if at%2 > 0 {
			l = c.table(t)
		}
		p := c.policy(l)
		o, e := build.Policy(p, l)
		if e != api.OK {
			continue
		}
		programs++
		same := func(of string, other build.Out, e api.Errno) {
			t.Helper()
			if e != api.OK || !bytes.Equal(other.Program, o.Program) {
				t.Fatalf("P22.2: %s: %s, %d, not %s, of %s", of, brief(other), e, brief(o), brief(p))
			}
		}
		n, _ := norm.Policy(p)
		other, e := build.Policy(n, l)
		same("its normal form", other, e)
		for _, q := range []policy.Policy{p, n} {
			text, _ := policy.Print(q)
			other, e = build.Compile(text, l)
			same("its own text", other, e)
			other, e = build.Compile("# all\n\n"+strings.ReplaceAll(strings.ReplaceAll(text, " ", " \t "), "\n", " # of it\r\n\r\n"), l)
			same("its text with notes and blanks", other, e)
		}
		for range 3 {
			other, e = build.Policy(c.mixed(p), l)
			same("in another order", other, e)
		}
		other, e = build.Policy(turned(p), l)
		same("with conditions in another order", other, e)
	}
	if programs < 250 {
		t.Errorf("only %d programs", programs)
	}
}

// other tells a condition that holds of the same arguments, in another form where there is one.
func other(c cond.Cond) cond.Cond {
	d := cond.Cond{Arg: c.Arg, Op: c.Op, Value: c.Value, Mask: c.Mask}
	switch {
	case c.Op == 1:
		d.Op, d.Mask = 7, most
	case c.Op == 2 && c.Value == 0:
		d.Op, d.Value = 6, 1
	case c.Op == 2 && c.Value == most:
		d.Op = 3
	case c.Op == 3 && c.Value > 0:
		d.Op, d.Value = 4, c.Value-1
	case c.Op == 4 && c.Value < most:
		d.Op, d.Value = 3, c.Value+1
	case c.Op == 5 && c.Value < most:
		d.Op, d.Value = 6, c.Value+1
	case c.Op == 6 && c.Value > 0:
		d.Op, d.Value = 5, c.Value-1
	case c.Op == 7 && c.Mask == 1<<63 && c.Value == 0:
		d = cond.Cond{Arg: c.Arg, Op: 3, Value: 1 << 63}
	case c.Op == 7 && c.Mask == 1<<63:
		d = cond.Cond{Arg: c.Arg, Op: 6, Value: 1 << 63}
	}
	return d
}

// alike tells a policy that decides as another one does: its conditions in another form, the default said once more behind each name's rules that do not end it, and its rules of different names in another order.
func (c *chance) alike(p policy.Policy, l []systab.Row) policy.Policy {
	q := p
	q.Rules = nil
	ended := map[string]bool{}
	for _, r := range p.Rules {
		conds := r.Conds
		r.Conds = nil
		for _, d := range conds {
			r.Conds = append(r.Conds, other(d))
		}
		q.Rules = append(q.Rules, r)
		ended[r.Name] = ended[r.Name] || len(r.Conds) == 0
	}
	for _, row := range l {
		if !ended[row.Name] {
			q.Rules = append(q.Rules, rule(row.Name, p.Default))
		}
	}
	return c.mixed(q)
}

// P22.2, P5: two policies that decide alike make programs that tell the same.
func TestAlike(t *testing.T) {
	c, l := chance(7), fewRows()
	programs, others := 0, 0
	for range 600 {
		p := c.policy(l)
		o, e := build.Policy(p, l)
		if e != api.OK {
			continue
		}
		q, e := build.Policy(c.alike(p, l), l)
		if e == api.ErrTwice { // what had two forms has one now
			continue
		}
		if e != api.OK {
			t.Fatalf("P22.2: %d, of %s", e, brief(p))
		}
		programs++
		if !bytes.Equal(o.Program, q.Program) {
			others++
		}
		first, _ := inst.Read(o.Program)
		second, _ := inst.Read(q.Program)
		m, _ := vm.New(first)
		n, _ := vm.New(second)
		for range 40 {
			b := data.Write(c.record(p, l), false)
			if told(m, b) != told(n, b) {
				t.Fatalf("P22.2: %#x: %#x, not %#x, of %s", b, told(n, b), told(m, b), brief(p))
			}
		}
	}
	if programs < 300 || others < 20 {
		t.Errorf("%d programs, %d others", programs, others)
	}
}

// R3: lists that are empty may be nil or not.
func TestNone(t *testing.T) {
	p, q := policy.Policy{Default: allow}, policy.Policy{Default: allow, Rules: []policy.Rule{}}
	first := built(t, p, nil)
	for _, program := range [][]byte{built(t, q, nil), built(t, p, []systab.Row{}), built(t, q, systab.Builtin()), compiled(t, "default allow")} {
		if !bytes.Equal(first, program) {
			t.Errorf("R3: %x, not %x", program, first)
		}
	}
	l := systab.Builtin()
	p.Rules, q.Rules = []policy.Rule{{Name: "read", Action: kill}}, []policy.Rule{{Name: "read", Action: kill, Conds: []cond.Cond{}}}
	if !bytes.Equal(built(t, p, l), built(t, q, l)) {
		t.Error("R3: of no conditions")
	}
}

// R4, R5: what is handed in stays as it is, the room behind its end, too; what is handed out is new each time, and the same.
func TestMemory(t *testing.T) {
	table := append(systab.Builtin(), row("z"))
	wasTable := slices.Clone(table)
	conds := []cond.Cond{{Arg: 3, Op: 4, Value: 9}, {Op: 5, Value: 2}, is(7)}
	wasConds := slices.Clone(conds)
	rules := []policy.Rule{rule("write", allow, conds[:2]...), rule("read", kill), rule("connect", errno(3)), rule("open", kill)}
	wasRules := slices.Clone(rules)
	p, l := policy.Policy{Default: errno(1), Rules: rules[:3]}, table[:len(table)-1]
	first, second := built(t, p, l), built(t, p, l)
	if !bytes.Equal(first, second) {
		t.Error("R5: not the same")
	}
	b := make([]byte, api.RecordSize, 80)
	for at := range b {
		b[at] = byte(at)
	}
	wasBytes := slices.Clone(b)
	if _, e := build.Run(first, b); e != api.OK || !bytes.Equal(b, wasBytes) || !bytes.Equal(first, second) {
		t.Errorf("R4: Run: %d", e)
	}
	clear(first[:cap(first)])
	if third := built(t, p, l); !bytes.Equal(third, second) {
		t.Error("R4: what was handed out is not new")
	}
	clear(second[:cap(second)])
	sameRule := func(a, b policy.Rule) bool {
		return policy.Same(policy.Policy{Rules: []policy.Rule{a}}, policy.Policy{Rules: []policy.Rule{b}})
	}
	if !slices.Equal(table, wasTable) || !slices.Equal(conds, wasConds) || !slices.EqualFunc(rules, wasRules, sameRule) {
		t.Error("R4: what was handed in has changed")
	}
}

// R1: the greatest policies over the greatest table end: they have a program, or are too long.
func TestGreatest(t *testing.T) {
	l := rows(api.MaxRows)
	p := policy.Policy{Default: kill, X32: true}
	for at := range api.MaxRules {
		r := rule(l[at%api.MaxRows].Name, act.Action{Kind: 6, Number: at})
		for arg := range api.MaxConds {
			r.Conds = append(r.Conds, cond.Cond{Arg: arg, Op: 7, Mask: most - uint64(at) - 1, Value: half<<32 - uint64(at)<<32})
		}
		p.Rules = append(p.Rules, r)
	}
	for at := range p.Rules {
		for arg := range p.Rules[at].Conds {
			p.Rules[at].Conds[arg].Value &= p.Rules[at].Conds[arg].Mask
		}
	}
	if o, e := build.Policy(p, l); e != api.ErrLong || o.Program != nil || o.Rule != 0 {
		t.Errorf("P22.1: %s, %d", brief(o), e)
	}
	// Where all names do the same, only their numbers are asked: of many there is room.
	same := policy.Policy{Default: kill}
	for _, r := range l[:250] {
		same.Rules = append(same.Rules, rule(r.Name, allow))
	}
	program := built(t, same, l)
	for at := uint32(0); at < 250; at += 7 {
		tells(t, program, record(x86, at), toAllow)
		tells(t, program, record(arm64, 2*at), toAllow)
		tells(t, program, record(arm64, 2*at+1), toKill)
	}
	tells(t, program, record(x86, 250), toKill)
	tells(t, program, record(x86, 2*bit-1), toKill)
	tells(t, program, record(i386, 1003), toAllow)
	tells(t, program, record(i386, 1004), toKill)
}
