package norm_test

import (
	"fmt"
	"math"
	"slices"
	"sort"
	"testing"

	"strainer/act"
	"strainer/api"
	"strainer/cond"
	"strainer/model"
	"strainer/norm"
	"strainer/policy"
)

const most = math.MaxUint64

// The operators.
const (
	equal   = 1
	unequal = 2
	below   = 3
	atMost  = 4
	above   = 5
	atLeast = 6
	masked  = 7
)

// Actions that the tests put.
var (
	kill  = act.Action{Kind: 1}
	log   = act.Action{Kind: 7}
	allow = act.Action{Kind: 8}
)

func errno(n int) act.Action { return act.Action{Kind: 4, Number: n} }

func rule(name string, a act.Action, l ...cond.Cond) policy.Rule {
	return policy.Rule{Name: name, Action: a, Conds: l}
}

// is tells the condition that argument 0 is a value.
func is(value uint64) cond.Cond { return cond.Cond{Op: equal, Value: value} }

// many tells a list of the same thing, so many times.
func many[T any](n int, of T) []T { return slices.Repeat([]T{of}, n) }

// brief tells a thing's beginning.
func brief(a any) string { return fmt.Sprintf("%.400s", fmt.Sprintf("%+v", a)) }

// parsed tells the policy of a text.
func parsed(t *testing.T, text string) policy.Policy {
	t.Helper()
	p, at, e := policy.Parse(text)
	if e != api.OK {
		t.Fatalf("Parse of %q: %d, %d", text, at, e)
	}
	return p
}

// becomes holds Cond to an answer, of each argument.
func becomes(t *testing.T, c, want cond.Cond, s norm.State) {
	t.Helper()
	for arg := range 6 {
		c.Arg = arg
		if s == norm.Asks {
			want.Arg = arg
		}
		if n, told := norm.Cond(c); n != want || told != s {
			t.Errorf("Cond of %+v: %+v, %d; not %+v, %d", c, n, told, want, s)
		}
	}
}

// normal tells the normal form of a policy that may be.
func normal(t *testing.T, p policy.Policy) policy.Policy {
	t.Helper()
	n, e := norm.Policy(p)
	if e != api.OK {
		t.Fatalf("Policy of %s: %d", brief(p), e)
	}
	return n
}

// deep tells a policy again, in other memory.
func deep(p policy.Policy) policy.Policy {
	p.Rules = slices.Clone(p.Rules)
	for at := range p.Rules {
		p.Rules[at].Conds = slices.Clone(p.Rules[at].Conds)
	}
	return p
}

// P16.1: the states' numbers.
func TestStates(t *testing.T) {
	if norm.Asks != 0 || norm.Always != 1 || norm.Never != 2 {
		t.Errorf("%d, %d, %d", norm.Asks, norm.Always, norm.Never)
	}
}

// P16.1: conditions that ask something, by hand; the document's example first.
func TestCondAsks(t *testing.T) {
	for _, c := range [][2]cond.Cond{
		{{Op: atMost, Value: 0}, {Op: equal, Value: 0}},
		{{Op: equal, Value: 0}, {Op: equal, Value: 0}},
		{{Op: equal, Value: 7}, {Op: equal, Value: 7}},
		{{Op: equal, Value: most}, {Op: equal, Value: most}},
		{{Op: below, Value: 1}, {Op: equal, Value: 0}},
		{{Op: below, Value: 2}, {Op: below, Value: 2}},
		{{Op: below, Value: 1 << 63}, {Op: below, Value: 1 << 63}},
		{{Op: atMost, Value: 1}, {Op: below, Value: 2}},
		{{Op: atMost, Value: math.MaxUint32}, {Op: below, Value: 1 << 32}},
		{{Op: atMost, Value: math.MaxInt64}, {Op: below, Value: 1 << 63}},
		{{Op: atMost, Value: 1 << 63}, {Op: below, Value: 1<<63 + 1}},
		{{Op: atMost, Value: most - 1}, {Op: below, Value: most}},
		{{Op: above, Value: 0}, {Op: atLeast, Value: 1}},
		{{Op: above, Value: 1}, {Op: atLeast, Value: 2}},
		{{Op: above, Value: math.MaxUint32}, {Op: atLeast, Value: 1 << 32}},
		{{Op: above, Value: math.MaxInt64}, {Op: atLeast, Value: 1 << 63}},
		{{Op: above, Value: most - 2}, {Op: atLeast, Value: most - 1}},
		{{Op: above, Value: most - 1}, {Op: equal, Value: most}},
		{{Op: atLeast, Value: 1}, {Op: atLeast, Value: 1}},
		{{Op: atLeast, Value: 1 << 63}, {Op: atLeast, Value: 1 << 63}},
		{{Op: atLeast, Value: most - 1}, {Op: atLeast, Value: most - 1}},
		{{Op: atLeast, Value: most}, {Op: equal, Value: most}},
		{{Op: masked, Mask: 3, Value: 2}, {Op: masked, Mask: 3, Value: 2}},
		{{Op: masked, Mask: 3, Value: 3}, {Op: masked, Mask: 3, Value: 3}},
		{{Op: masked, Mask: 1}, {Op: masked, Mask: 1}},
		{{Op: masked, Mask: math.MaxUint32, Value: 5}, {Op: masked, Mask: math.MaxUint32, Value: 5}},
		{{Op: masked, Mask: most - 1, Value: 4}, {Op: masked, Mask: most - 1, Value: 4}},
		{{Op: masked, Mask: most >> 1, Value: 4}, {Op: masked, Mask: most >> 1, Value: 4}},
		{{Op: masked, Mask: most}, {Op: equal}},
		{{Op: masked, Mask: most, Value: 4}, {Op: equal, Value: 4}},
		{{Op: masked, Mask: most, Value: most}, {Op: equal, Value: most}},
	} {
		becomes(t, c[0], c[1], norm.Asks)
	}
}

// P16.1: what the document does not name stays, even where another condition holds of the same arguments.
func TestCondStays(t *testing.T) {
	for _, c := range []cond.Cond{
		{Op: unequal, Value: 0},
		{Op: unequal, Value: 1},
		{Op: unequal, Value: 1 << 63},
		{Op: unequal, Value: most},
		{Op: below, Value: most},
		{Op: atLeast, Value: 1},
		{Op: masked, Mask: 1 << 63},
		{Op: masked, Mask: 1 << 63, Value: 1 << 63},
		{Op: masked, Mask: most - 1},
		{Op: masked, Mask: most - 1, Value: most - 1},
	} {
		becomes(t, c, c, norm.Asks)
	}
}

// P16.1: conditions that hold always, or never: no condition is told with them.
func TestCondAlwaysNever(t *testing.T) {
	for _, c := range []cond.Cond{{Op: atMost, Value: most}, {Op: atLeast}, {Op: masked}} {
		becomes(t, c, cond.Cond{}, norm.Always)
	}
	for _, c := range []cond.Cond{
		{Op: above, Value: most},
		{Op: below},
		{Op: masked, Value: 1},
		{Op: masked, Value: most},
		{Op: masked, Mask: 1, Value: 2},
		{Op: masked, Mask: 1, Value: 3},
		{Op: masked, Mask: most - 1, Value: 1},
		{Op: masked, Mask: most - 1, Value: most},
		{Op: masked, Mask: math.MaxUint32, Value: 1 << 32},
		{Op: masked, Mask: most >> 1, Value: 1 << 63},
	} {
		becomes(t, c, cond.Cond{}, norm.Never)
	}
}

// wrongConds tells conditions that are not right.
func wrongConds() []cond.Cond {
	l := []cond.Cond{{}, {Op: 8}, {Op: 8, Mask: 1, Value: 1}, {Op: -1}, {Op: math.MaxInt}, {Op: math.MinInt}, {Op: 1 + 1<<32}}
	for _, arg := range []int{-1, 6, math.MaxInt, math.MinInt, 1 << 32} {
		for op := range 9 {
			l = append(l, cond.Cond{Arg: arg, Op: op}, cond.Cond{Arg: arg, Op: op, Value: most})
		}
	}
	for op := 1; op < masked; op++ {
		l = append(l, cond.Cond{Op: op, Mask: 1}, cond.Cond{Op: op, Mask: most, Value: 3}, cond.Cond{Op: op, Mask: most, Value: most})
	}
	return l
}

// P16.1, R1: of one that is not right none, Never; a rule with it is none.
func TestCondWrong(t *testing.T) {
	for _, c := range wrongConds() {
		if cond.Right(c) {
			t.Fatalf("%+v is right", c)
		}
		if n, s := norm.Cond(c); n != (cond.Cond{}) || s != norm.Never {
			t.Errorf("Cond of %+v: %+v, %d", c, n, s)
		}
		for _, l := range [][]cond.Cond{{c}, {is(1), c}, {c, is(1)}, {{Op: atLeast}, c, {Op: atLeast}}} {
			isNone(t, rule("read", allow, l...))
		}
	}
}

// edges tells numbers near which a condition may change.
func edges(l ...uint64) []uint64 {
	all := []uint64{0, 1, 2, math.MaxUint32 - 1, math.MaxUint32, 1 << 32, 1<<32 + 1, math.MaxInt64, 1 << 63, most - 1, most}
	for _, n := range l {
		all = append(all, n-1, n, n+1, ^n)
	}
	return all
}

// someConds tells right conditions with all operators, at all edges.
func someConds() []cond.Cond {
	var l []cond.Cond
	for _, v := range edges(5) {
		for op := equal; op < masked; op++ {
			l = append(l, cond.Cond{Op: op, Value: v})
		}
		for _, m := range edges(6) {
			l = append(l, cond.Cond{Op: masked, Mask: m, Value: v})
		}
	}
	return l
}

// witnesses: does a condition hold of some argument, and does it not hold of some, out of those near which it may change?
func witnesses(c cond.Cond) (holds, fails bool) {
	for _, n := range append(edges(c.Value, c.Mask), c.Value^c.Mask, c.Value|^c.Mask) {
		if cond.Holds(c, [6]uint64{n}) {
			holds = true
		} else {
			fails = true
		}
	}
	return holds, fails
}

// P16.1, P16.2: what is told of a condition is so: it holds always, or never, or of some; and a normal form holds of just the same arguments, is right, and its own.
func TestCondMeans(t *testing.T) {
	for _, c := range someConds() {
		n, s := norm.Cond(c)
		holds, fails := witnesses(c)
		if (s == norm.Always) != !fails || (s == norm.Never) != !holds || s != norm.Asks && n != (cond.Cond{}) {
			t.Errorf("Cond of %+v: %+v, %d", c, n, s)
		}
		if s != norm.Asks {
			continue
		}
		if again, s := norm.Cond(n); again != n || s != norm.Asks || !cond.Right(n) {
			t.Errorf("Cond of %+v, of Cond of %+v: %+v, %d", n, c, again, s)
		}
		for _, v := range edges(c.Value, c.Mask, n.Value, n.Mask) {
			if args := [6]uint64{v}; cond.Holds(c, args) != cond.Holds(n, args) {
				t.Errorf("%+v, %+v: not the same of %#x", c, n, v)
			}
		}
	}
}

// isRule holds Rule to an answer.
func isRule(t *testing.T, r policy.Rule, want ...cond.Cond) {
	t.Helper()
	n, ok := norm.Rule(r)
	if !ok || n.Name != r.Name || n.Action != r.Action || !slices.Equal(n.Conds, want) {
		t.Errorf("Rule of %s: %+v, %t; not %+v", brief(r), n, ok, want)
	}
}

// isNone holds Rule to tell that a rule is none.
func isNone(t *testing.T, r policy.Rule) {
	t.Helper()
	if n, ok := norm.Rule(r); ok || n.Name != "" || n.Action != (act.Action{}) || len(n.Conds) > 0 {
		t.Errorf("Rule of %s: %+v, %t", brief(r), n, ok)
	}
}

// P16.1: rules by hand; the document's example first.
func TestRule(t *testing.T) {
	isRule(t, rule("read", allow, cond.Cond{Op: atLeast}))
	isRule(t, rule("read", allow))
	isRule(t, policy.Rule{Name: "read", Action: allow, Conds: []cond.Cond{}})
	isRule(t, rule("open", errno(13), is(1)), is(1))
	isRule(t, rule("open", errno(13), many(6, is(1))...), is(1))
	isRule(t, rule("read", log, is(2), is(1), is(2)), is(1), is(2))
	isRule(t, rule("read", log, cond.Cond{Op: atMost, Value: most}, cond.Cond{Arg: 5, Op: masked}, cond.Cond{Arg: 3, Op: atLeast}))
	isRule(t, rule("read", log, cond.Cond{Op: atLeast}, is(1), cond.Cond{Op: atLeast}), is(1))
	// What becomes the same stands once.
	isRule(t, rule("read", log, cond.Cond{Op: below, Value: 5}, cond.Cond{Op: atMost, Value: 4}), cond.Cond{Op: below, Value: 5})
	isRule(t, rule("read", log, cond.Cond{Op: atMost}, cond.Cond{Op: below, Value: 1}, is(0), cond.Cond{Op: masked, Mask: most}), is(0))
	isRule(t, rule("read", log, cond.Cond{Op: above, Value: most - 1}, is(most), cond.Cond{Op: atLeast, Value: most}, cond.Cond{Op: masked, Mask: most, Value: most}), is(most))
	// It stands where its normal form does, not where it did: here operators 4 and 7 become 1.
	isRule(t, rule("read", log, cond.Cond{Op: unequal, Value: 3}, cond.Cond{Op: atMost}), is(0), cond.Cond{Op: unequal, Value: 3})
	isRule(t, rule("read", log, cond.Cond{Op: atLeast, Value: 3}, cond.Cond{Op: masked, Mask: most, Value: 9}), is(9), cond.Cond{Op: atLeast, Value: 3})
	isRule(t, rule("read", log, cond.Cond{Op: above, Value: 3}, cond.Cond{Op: atMost, Value: 8}), cond.Cond{Op: below, Value: 9}, cond.Cond{Op: atLeast, Value: 4})
	// What several conditions ask together is not looked at.
	isRule(t, rule("read", log, is(1), is(2)), is(1), is(2))
	isRule(t, rule("read", log, is(1), cond.Cond{Op: unequal, Value: 1}), is(1), cond.Cond{Op: unequal, Value: 1})
	isRule(t, rule("read", log, cond.Cond{Op: below, Value: 3}, cond.Cond{Op: below, Value: 2}), cond.Cond{Op: below, Value: 2}, cond.Cond{Op: below, Value: 3})
	// A single one that never holds is enough.
	for at := range 6 {
		l := many(6, is(1))
		l[at] = cond.Cond{Arg: at, Op: below}
		isNone(t, rule("read", allow, l...))
		l[at] = cond.Cond{Arg: at, Op: above, Value: most}
		isNone(t, rule("read", allow, l...))
		l[at] = cond.Cond{Arg: at, Op: masked, Mask: 1, Value: 2}
		isNone(t, rule("read", allow, l...))
	}
	isNone(t, rule("read", allow, cond.Cond{Op: atLeast}, cond.Cond{Op: below}))
}

// P16.1, R1: the name and the action are not looked at, nor how many conditions there are.
func TestAnyRule(t *testing.T) {
	for _, name := range []string{"", "READ", "default", "x32", "\x00\xff"} {
		for _, a := range []act.Action{{}, {Kind: 9}, {Kind: -1, Number: math.MinInt}, {Kind: 1, Number: 1}} {
			isRule(t, rule(name, a, is(2), cond.Cond{Op: atLeast}, is(1)), is(1), is(2))
			isNone(t, rule(name, a, is(2), cond.Cond{Op: below}))
		}
	}
	var l, want []cond.Cond
	for n := range uint64(1000) {
		l = append(l, is(999-n), is(n))
		want = append(want, is(n))
	}
	isRule(t, rule("read", allow, l...), want...)
}

// P16.1, P16.2: conditions rise by argument, operator, mask and value, all without a sign, in whatever order they were, how often ever.
func TestRuleOrder(t *testing.T) {
	for _, want := range [][]cond.Cond{
		{{Arg: 0, Op: 6, Value: 9}, {Arg: 1, Op: 3, Value: 8}, {Arg: 5, Op: 1, Value: 7}},
		{{Op: 1, Value: 9}, {Op: 2, Value: 8}, {Op: 3, Value: 7}},
		{{Op: 3, Value: 9}, {Op: 6, Value: 8}, {Op: 7, Mask: 7, Value: 1}},
		{{Op: 7, Mask: 6, Value: 6}, {Op: 7, Mask: 7, Value: 1}, {Op: 7, Mask: 1 << 63}},
		{{Op: 7, Mask: 1 << 63, Value: 1 << 63}, {Op: 7, Mask: 1<<63 + 1}, {Op: 7, Mask: most - 1}},
		{{Op: 7, Mask: most - 1}, {Op: 7, Mask: most - 1, Value: math.MaxInt64 - 1}, {Op: 7, Mask: most - 1, Value: 1 << 63}},
		{{Op: 1}, {Op: 1, Value: math.MaxInt64}, {Op: 1, Value: most}},
		{{Op: 2, Value: math.MaxUint32}, {Op: 2, Value: 1 << 32}, {Op: 2, Value: 1 << 63}},
		{{Arg: 2, Op: 6, Value: 2}, {Arg: 2, Op: 6, Value: 10}, {Arg: 2, Op: 6, Value: most - 1}},
		{{Arg: 4, Op: 7, Mask: 2, Value: 2}, {Arg: 4, Op: 7, Mask: 10, Value: 2}, {Arg: 4, Op: 7, Mask: 10, Value: 10}},
	} {
		a, b, c := want[0], want[1], want[2]
		for _, l := range [][]cond.Cond{{a, b, c}, {a, c, b}, {b, a, c}, {b, c, a}, {c, a, b}, {c, b, a}, {c, b, a, c, b, a}, {b, b, c, c, a, a}} {
			isRule(t, rule("read", allow, l...), want...)
		}
	}
}

// P16.1: policies by hand.
func TestPolicy(t *testing.T) {
	for text, want := range map[string]string{
		"default kill":                                    "default kill\n",
		"default errno 38\nx32 on":                        "default errno 38\nx32 on\n",
		"default kill\nread allow if a0 >= 0":             "default kill\nread allow\n",
		"default kill\nread allow if a0 <= 0":             "default kill\nread allow if a0 == 0\n",
		"default kill\nread allow if a0 < 0":              "default kill\n",
		"default kill\nx32 on\nread allow if a0 & 1 == 2": "default kill\nx32 on\n",
		// By name, byte by byte.
		"default kill\nwrite allow\nread allow\nopen allow":                 "default kill\nopen allow\nread allow\nwrite allow\n",
		"default kill\naz allow\na_ allow\na0 allow\na allow\na9 allow":     "default kill\na allow\na0 allow\na9 allow\na_ allow\naz allow\n",
		"default kill\nopenat allow\nopen allow\nb allow\nab allow\na2 log": "default kill\na2 log\nab allow\nb allow\nopen allow\nopenat allow\n",
		"default kill\na10 allow\na9 allow\na1 allow":                       "default kill\na1 allow\na10 allow\na9 allow\n",
		// Of one name in their order, whatever they ask.
		"default kill\nread log if a5 == 9\nread allow if a0 == 1":                                       "default kill\nread log if a5 == 9\nread allow if a0 == 1\n",
		"default kill\nread log if a1 == 1\nopen log\nread allow if a0 == 1\nbind log\nread trap":        "default kill\nbind log\nopen log\nread log if a1 == 1\nread allow if a0 == 1\nread trap\n",
		"default kill\nwrite log if a0 == 2\nread log if a0 == 2\nwrite log if a0 == 1\nread allow":      "default kill\nread log if a0 == 2\nread allow\nwrite log if a0 == 2\nwrite log if a0 == 1\n",
		"default kill\nread allow if a0 == 1 and a1 == 2\nread log if a0 == 1\nread trap if a1 == 2":     "default kill\nread allow if a0 == 1 and a1 == 2\nread log if a0 == 1\nread trap if a1 == 2\n",
		"default kill\nread allow if a0 == 1\nread log if a0 == 1 and a1 == 2":                           "default kill\nread allow if a0 == 1\nread log if a0 == 1 and a1 == 2\n",
		"default kill\nread allow if a0 < 9\nread log if a0 < 5\nread trap if a0 >= 9\nread errno 1":     "default kill\nread allow if a0 < 9\nread log if a0 < 5\nread trap if a0 >= 9\nread errno 1\n",
		"default kill\nread allow if a0 == 1\nread allow if a0 == 2\nwrite allow if a0 == 1\nread allow": "default kill\nread allow if a0 == 1\nread allow if a0 == 2\nread allow\nwrite allow if a0 == 1\n",
	} {
		isPolicy(t, text, want)
	}
}

// isPolicy holds Policy to an answer, as text.
func isPolicy(t *testing.T, text, want string) {
	t.Helper()
	own, e := policy.Print(normal(t, parsed(t, text)))
	if own != want || e != api.OK {
		t.Errorf("Policy of %q: %q, %d; not %q", text, own, e, want)
	}
}

// P16.1: rules behind one of the same name without conditions, or with the same ones, are left out.
func TestHidden(t *testing.T) {
	for text, want := range map[string]string{
		"default kill\nread allow\nread log\nread trap if a0 == 1":                                             "default kill\nread allow\n",
		"default kill\nread log if a0 == 1\nread allow\nread trap if a0 == 2\nread trap if a0 == 1":            "default kill\nread log if a0 == 1\nread allow\n",
		"default kill\nread allow if a3 >= 0 and a2 & 0 == 0\nread log if a0 == 1":                             "default kill\nread allow\n",
		"default kill\nread allow\nwrite log if a0 == 1\nread log if a0 == 1":                                  "default kill\nread allow\nwrite log if a0 == 1\n",
		"default kill\nread log if a0 == 1\nread allow if a0 == 1":                                             "default kill\nread log if a0 == 1\n",
		"default kill\nread log if a0 == 1\nread trap if a0 == 2\nread allow if a0 == 1":                       "default kill\nread log if a0 == 1\nread trap if a0 == 2\n",
		"default kill\nread log if a0 == 1 and a1 == 2\nread allow if a1 == 2 and a0 == 1 and a1 == 2":         "default kill\nread log if a0 == 1 and a1 == 2\n",
		"default kill\nread log if a0 <= 4 and a1 > 2\nread allow if a1 >= 3 and a0 < 5\nread trap if a0 == 1": "default kill\nread log if a0 < 5 and a1 >= 3\nread trap if a0 == 1\n",
		"default kill\nread log if a0 == 0\nread allow if a0 < 1\nread trap if a0 <= 0":                        "default kill\nread log if a0 == 0\n",
		// One that is none hides nothing.
		"default kill\nread log if a0 < 0\nread allow\nread log":                            "default kill\nread allow\n",
		"default kill\nread log if a0 == 1 and a1 < 0\nread allow if a0 == 1":               "default kill\nread allow if a0 == 1\n",
		"default kill\nread log if a0 & 1 == 2 and a1 >= 0\nread allow\nread trap":          "default kill\nread allow\n",
		"default kill\nread allow if a0 == 1\nread log if a0 == 1 and a1 < 0\nread errno 2": "default kill\nread allow if a0 == 1\nread errno 2\n",
	} {
		isPolicy(t, text, want)
	}
}

// P16.1: the last rules of each name are left out, as long as their action is the default; no other one is.
func TestLast(t *testing.T) {
	for text, want := range map[string]string{
		"default allow\nread allow": "default allow\n",
		"default allow\nread allow if a0 == 1\nwrite allow\nread allow if a0 == 2":                   "default allow\n",
		"default allow\nread log if a0 == 1\nread allow if a0 == 2\nread allow":                      "default allow\nread log if a0 == 1\n",
		"default allow\nread log if a0 == 1\nread allow if a0 == 2\nread log if a0 == 3\nread allow": "default allow\nread log if a0 == 1\nread allow if a0 == 2\nread log if a0 == 3\n",
		"default allow\nread allow if a0 == 1\nread kill\nwrite allow if a0 == 1\nwrite allow":       "default allow\nread allow if a0 == 1\nread kill\n",
		"default allow\nread kill\nwrite allow":                                                      "default allow\nread kill\n",
		"default allow\nwrite kill\nread allow":                                                      "default allow\nwrite kill\n",
		"default allow\nread kill\nopen allow\nwrite allow\nwrite kill":                              "default allow\nread kill\n",
		"default errno 1\nread errno 1\nwrite errno 2\nopen trace 1":                                 "default errno 1\nopen trace 1\nwrite errno 2\n",
		"default trace 65535\nread trace 65535\nwrite trace 65534":                                   "default trace 65535\nwrite trace 65534\n",
		"default kill\nread kill\nwrite kill_thread":                                                 "default kill\nwrite kill_thread\n",
		// Those behind one without conditions, and those that are none, are left out ahead.
		"default allow\nread allow\nread kill":                                                                  "default allow\n",
		"default allow\nread log if a0 == 1\nread allow\nread kill if a0 == 2":                                  "default allow\nread log if a0 == 1\n",
		"default allow\nread allow if a0 == 1\nread kill if a0 == 1":                                            "default allow\n",
		"default allow\nread log if a0 == 1\nread allow if a0 == 2\nread kill if a0 < 0":                        "default allow\nread log if a0 == 1\n",
		"default allow\nread log if a0 == 1\nread allow if a0 == 2\nread kill if a0 == 2\nread trap if a0 == 1": "default allow\nread log if a0 == 1\n",
	} {
		isPolicy(t, text, want)
	}
}

// P16.1, R2: a policy that may not be is none.
func TestPolicyWrong(t *testing.T) {
	for _, p := range []policy.Policy{
		{},
		{X32: true},
		{Default: act.Action{Kind: 9}, X32: true},
		{Default: act.Action{Kind: 1, Number: 1}, Rules: []policy.Rule{rule("read", allow)}},
		{Rules: []policy.Rule{rule("read", allow)}},
		{Default: kill, Rules: []policy.Rule{rule("", allow)}},
		{Default: kill, Rules: []policy.Rule{rule("read", allow), rule("READ", allow)}},
		{Default: kill, Rules: []policy.Rule{rule("default", allow)}},
		{Default: kill, Rules: []policy.Rule{rule("x32", allow)}},
		{Default: kill, Rules: []policy.Rule{rule("read", act.Action{})}},
		{Default: kill, Rules: []policy.Rule{rule("read", errno(4096))}},
		{Default: kill, Rules: []policy.Rule{rule("read", allow, many(7, is(1))...)}},
		{Default: kill, Rules: many(501, rule("read", allow))},
		// What the normal form would leave out must be right, too.
		{Default: kill, Rules: []policy.Rule{rule("read", allow), rule("read", errno(-1))}},
		{Default: kill, Rules: []policy.Rule{rule("read", act.Action{Kind: 9}, cond.Cond{Op: below})}},
		{Default: kill, Rules: []policy.Rule{rule("Read", kill)}},
	} {
		isWrong(t, p)
	}
	for _, c := range wrongConds() {
		isWrong(t, policy.Policy{Default: kill, Rules: []policy.Rule{rule("read", allow, c)}})
		isWrong(t, policy.Policy{Default: kill, Rules: []policy.Rule{rule("read", allow), rule("read", kill, cond.Cond{Op: below}, c)}})
	}
}

// isWrong holds Policy to tell that a policy may not be.
func isWrong(t *testing.T, p policy.Policy) {
	t.Helper()
	if n, e := norm.Policy(p); e != api.ErrForm || n.Default != (act.Action{}) || n.X32 || len(n.Rules) > 0 {
		t.Errorf("Policy of %s: %s, %d", brief(p), brief(n), e)
	}
}

// P16.1: a policy may be, whatever a table says of it: norm knows none.
func TestPolicyOfNoTable(t *testing.T) {
	isPolicy(t, "default kill\nzzz allow\nread allow\nread allow\nnobody_1 log if a0 == 1", "default kill\nnobody_1 log if a0 == 1\nread allow\nzzz allow\n")
}

// P16.1: as many rules and conditions as may be.
func TestMost(t *testing.T) {
	p := policy.Policy{Default: kill, X32: true}
	want := policy.Policy{Default: kill, X32: true}
	for n := range uint64(api.MaxRules) {
		p.Rules = append(p.Rules, rule("read", allow, is(n+5), is(n+4), is(n+3), is(n+2), is(n+1), is(n)))
		want.Rules = append(want.Rules, rule("read", allow, is(n), is(n+1), is(n+2), is(n+3), is(n+4), is(n+5)))
	}
	if n := normal(t, p); !policy.Same(n, want) {
		t.Errorf("%s", brief(n))
	}
	p.Default = allow
	if n := normal(t, p); len(n.Rules) > 0 {
		t.Errorf("%s", brief(n))
	}
	p.Default, p.Rules[499].Conds = kill, []cond.Cond{is(5), is(4), is(2), is(1), is(0), is(3)}
	want.Rules = want.Rules[:499]
	if n := normal(t, p); !policy.Same(n, want) {
		t.Errorf("%s", brief(n))
	}
	for at := range p.Rules {
		p.Rules[499-at].Name = fmt.Sprintf("n%03d", at)
	}
	n := normal(t, p)
	if len(n.Rules) != 500 || !sort.SliceIsSorted(n.Rules, func(a, b int) bool { return n.Rules[a].Name < n.Rules[b].Name }) {
		t.Errorf("%s", brief(n))
	}
}

// chance tells numbers that are the same each time.
type chance uint64

func (c *chance) below(n int) int {
	*c = *c*6364136223846793005 + 1442695040888963407
	mixed := uint64(*c>>32) ^ uint64(*c>>47)
	return int((mixed * 0x9e3779b97f4a7c15 >> 33) % uint64(n))
}

// values tells few, so that what becomes the same is often met.
func values() []uint64 { return []uint64{0, 1, 2, 3, 1 << 63, most - 1, most} }

// cond tells a right condition.
func (c *chance) cond() cond.Cond {
	few := values()
	d := cond.Cond{Arg: c.below(2), Op: 1 + c.below(7), Value: few[1+c.below(6)]}
	if c.below(8) == 0 {
		d.Arg, d.Value = c.below(6), few[c.below(7)]
	}
	if d.Op == masked {
		d.Mask = few[c.below(7)]
		if c.below(4) > 0 {
			d.Value &= d.Mask
		}
	}
	return d
}

// names tells those that policies are made of here.
func names() []string { return []string{"a", "a0", "a_", "b", "connect"} }

// policy tells one of up to so many rules.
func (c *chance) policy(rules int) policy.Policy {
	actions := []act.Action{kill, log, allow, errno(1), errno(2)}
	p := policy.Policy{Default: actions[c.below(3)], X32: c.below(2) == 0}
	for range c.below(rules + 1) {
		r := rule(names()[c.below(1+c.below(5))], actions[c.below(1+c.below(5))])
		if c.below(8) > 0 {
			for range 1 + c.below(1+c.below(6)) {
				r.Conds = append(r.Conds, c.cond())
			}
		}
		p.Rules = append(p.Rules, r)
	}
	return p
}

// toldCond tells a right condition's normal form, word by word from the document.
func toldCond(c cond.Cond) (cond.Cond, norm.State) {
	if c.Op == atMost {
		if c.Value == most {
			return cond.Cond{}, norm.Always
		}
		c.Op, c.Value = below, c.Value+1
	}
	if c.Op == above {
		if c.Value == most {
			return cond.Cond{}, norm.Never
		}
		c.Op, c.Value = atLeast, c.Value+1
	}
	switch {
	case c.Op == below && c.Value == 0, c.Op == masked && c.Value|c.Mask != c.Mask:
		return cond.Cond{}, norm.Never
	case c.Op == atLeast && c.Value == 0, c.Op == masked && c.Mask == 0 && c.Value == 0:
		return cond.Cond{}, norm.Always
	case c.Op == below && c.Value == 1:
		c.Op, c.Value = equal, 0
	case c.Op == atLeast && c.Value == most:
		c.Op = equal
	case c.Op == masked && c.Mask == most:
		c.Op, c.Mask = equal, 0
	}
	return c, norm.Asks
}

// ahead: does a condition stand ahead of another one?
func ahead(a, b cond.Cond) bool {
	switch {
	case a.Arg != b.Arg:
		return a.Arg < b.Arg
	case a.Op != b.Op:
		return a.Op < b.Op
	case a.Mask != b.Mask:
		return a.Mask < b.Mask
	}
	return a.Value < b.Value
}

// toldConds tells the conditions of a rule's normal form, and whether it is one.
func toldConds(l []cond.Cond) ([]cond.Cond, bool) {
	var own []cond.Cond
	for _, c := range l {
		n, s := toldCond(c)
		if s == norm.Never {
			return nil, false
		}
		if s == norm.Always {
			continue
		}
		at := 0
		for at < len(own) && ahead(own[at], n) {
			at++
		}
		if at == len(own) || own[at] != n {
			own = slices.Insert(own, at, n)
		}
	}
	return own, true
}

// toldRules tells the rules of one name in a policy's normal form.
func toldRules(p policy.Policy, name string) []policy.Rule {
	var l []policy.Rule
next:
	for _, r := range p.Rules {
		own, ok := toldConds(r.Conds)
		if r.Name != name || !ok {
			continue
		}
		for _, other := range l {
			if len(other.Conds) == 0 || slices.Equal(other.Conds, own) {
				continue next
			}
		}
		l = append(l, rule(name, r.Action, own...))
	}
	end := 0
	for at, r := range l {
		if r.Action != p.Default {
			end = at + 1
		}
	}
	return l[:end]
}

// P16.1: over many policies, held against a second telling of the document's words.
func TestManyPolicies(t *testing.T) {
	var c chance
	shorter, kept := 0, 0
	for range 20000 {
		p := c.policy(12)
		want := policy.Policy{Default: p.Default, X32: p.X32}
		for _, name := range names() {
			want.Rules = append(want.Rules, toldRules(p, name)...)
		}
		n := normal(t, p)
		if !policy.Same(n, want) {
			t.Fatalf("Policy of %+v: %+v, not %+v", p, n, want)
		}
		shorter += len(p.Rules) - len(n.Rules)
		kept += len(n.Rules)
	}
	if shorter < 10000 || kept < 10000 {
		t.Errorf("%d rules left out, %d kept", shorter, kept)
	}
}

// P16.2: the normal form of a normal form is it; it may be.
func TestNormalOfNormal(t *testing.T) {
	c := chance(1)
	for range 20000 {
		p := c.policy(12)
		n := normal(t, p)
		if again := normal(t, n); !policy.Same(again, n) || !policy.Right(n) {
			t.Fatalf("Policy of %+v: %+v, then %+v", p, n, again)
		}
		for _, r := range n.Rules {
			isRule(t, r, r.Conds...)
		}
	}
}

// P16.2: it decides as the policy does.
func TestDecidesAlike(t *testing.T) {
	c := chance(2)
	few, met := values(), map[act.Action]int{}
	for range 6000 {
		p := c.policy(8)
		n := normal(t, p)
		for range 40 {
			var args [6]uint64
			for at := range args {
				args[at] = few[c.below(7)]
			}
			name := names()[c.below(5)]
			a, b := model.Decide(p, name, args), model.Decide(n, name, args)
			if a != b {
				t.Fatalf("%s of %+v: %+v of %+v, %+v of %+v", name, args, a, p, b, n)
			}
			met[b]++
		}
	}
	for _, a := range []act.Action{kill, log, allow, errno(1), errno(2)} {
		if met[a] < 1000 {
			t.Errorf("%+v: %d times", a, met[a])
		}
	}
}

// turned tells a policy with its rules of different names, and each rule's conditions, in another order.
func (c *chance) turned(p policy.Policy) policy.Policy {
	q := policy.Policy{Default: p.Default, X32: p.X32}
	named := map[string][]policy.Rule{}
	for _, r := range deep(p).Rules {
		for n := range r.Conds {
			m := c.below(n + 1)
			r.Conds[n], r.Conds[m] = r.Conds[m], r.Conds[n]
		}
		named[r.Name] = append(named[r.Name], r)
	}
	for len(q.Rules) < len(p.Rules) {
		name := names()[c.below(5)]
		if l := named[name]; len(l) > 0 {
			q.Rules, named[name] = append(q.Rules, l[0]), l[1:]
		}
	}
	return q
}

// P16.2: the order of rules of different names, and of a rule's conditions, does not matter.
func TestOrders(t *testing.T) {
	c := chance(3)
	other := 0
	for range 4000 {
		p := c.policy(8)
		n := normal(t, p)
		for range 4 {
			q := c.turned(p)
			if !policy.Same(normal(t, q), n) {
				t.Fatalf("of %+v, and of %+v: not the same", p, q)
			}
			if !policy.Same(p, q) {
				other++
			}
		}
	}
	if other < 8000 {
		t.Errorf("%d in another order", other)
	}
}

// R4: what is handed in is not changed, the spare room behind its lists' ends neither.
func TestUnchanged(t *testing.T) {
	conds := func() []cond.Cond {
		return []cond.Cond{is(3), {Op: atMost}, {Op: atLeast}, {Op: below, Value: 4}, is(3), is(1), is(9), is(8)}
	}
	first, second := conds(), conds()
	rules := []policy.Rule{rule("write", allow, first[:6]...), rule("read", kill), rule("read", log, second[:5]...), rule("open", log), rule("aaa", log)}
	was := deep(policy.Policy{Rules: rules})
	norm.Policy(policy.Policy{Default: kill, Rules: rules[:3]})
	norm.Policy(policy.Policy{Default: allow, Rules: rules[:3]})
	for _, r := range rules {
		norm.Rule(r)
	}
	if !policy.Same(policy.Policy{Rules: rules}, was) || !slices.Equal(first, conds()) || !slices.Equal(second, conds()) {
		t.Errorf("changed: %+v, %+v, %+v", rules, first, second)
	}
}

// R4: what is handed out is new: a change of one of its lists, or of the room behind it, shows nowhere else.
func TestNew(t *testing.T) {
	const text = "default kill\nwrite log if a0 == 1 and a1 == 2\nread allow if a0 == 1\nread trap if a0 == 2 and a0 == 3\nopen allow"
	p := parsed(t, text)
	was := deep(p)
	want := deep(normal(t, p))
	n := normal(t, p)
	for at := range n.Rules {
		_ = append(n.Rules[at].Conds, is(9), is(9))
		if !policy.Same(n, want) {
			t.Fatalf("changed by a change behind rule %d: %+v", at, n)
		}
	}
	for at := range n.Rules {
		clear(n.Rules[at].Conds)
		if rest := at + 1; !policy.Same(policy.Policy{Rules: n.Rules[rest:]}, policy.Policy{Rules: want.Rules[rest:]}) {
			t.Fatalf("changed by a change of rule %d: %+v", at, n)
		}
	}
	clear(n.Rules)
	if !policy.Same(p, was) || !policy.Same(normal(t, p), want) {
		t.Errorf("changed: %+v", p)
	}
	r := rule("read", allow, is(1), is(2))
	own, _ := norm.Rule(r)
	clear(own.Conds)
	_ = append(own.Conds, is(9))
	isRule(t, r, is(1), is(2))
}

// R3, R5: nil or empty is the same, and what is asked again is answered again.
func TestAgain(t *testing.T) {
	for _, rules := range [][]policy.Rule{nil, {}} {
		n := normal(t, policy.Policy{Default: log, X32: true, Rules: rules})
		if n.Default != log || !n.X32 || len(n.Rules) > 0 {
			t.Errorf("%+v", n)
		}
	}
	c := chance(4)
	for range 200 {
		p := c.policy(40)
		n := normal(t, p)
		for range 10 {
			if !policy.Same(normal(t, p), n) {
				t.Fatalf("of %+v: not the same again", p)
			}
		}
	}
}
