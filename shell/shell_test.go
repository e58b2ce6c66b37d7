package shell_test

import (
	"fmt"
	"maps"
	"slices"
	"sort"
	"strconv"
	"strings"
	"testing"

	"strainer/act"
	"strainer/api"
	"strainer/build"
	"strainer/data"
	"strainer/inst"
	"strainer/judge"
	"strainer/list"
	"strainer/norm"
	"strainer/policy"
	"strainer/shell"
	"strainer/systab"
)

// brief tells a text's beginning.
func brief(s string) string { return fmt.Sprintf("%.300q", s) }

// tells holds a shell to what it tells of a line.
func tells(t *testing.T, s *shell.Shell, line, want string) {
	t.Helper()
	if told := s.Line(line); told != want {
		t.Errorf("P24.1: %s: %s, not %s", brief(line), brief(told), brief(want))
	}
}

// session holds a new shell to lines, each with what it tells of it; and Run to all of them.
func session(t *testing.T, lines ...[2]string) *shell.Shell {
	t.Helper()
	s := shell.New()
	all, want := "", ""
	for _, x := range lines {
		tells(t, s, x[0], x[1]+"\n")
		all += x[0] + "\n"
		want += x[1] + "\n"
	}
	if told, e := shell.Run(all); told != want || e != api.OK {
		t.Errorf("P24.1: Run of %s: %s, %d", brief(all), brief(told), e)
	}
	return s
}

// put hands lines to a shell that ought to tell ok of each.
func put(t *testing.T, s *shell.Shell, lines ...string) {
	t.Helper()
	for _, line := range lines {
		tells(t, s, line, "ok\n")
	}
}

// builds hands it the line build, and tells how many instructions it told.
func builds(t *testing.T, s *shell.Shell) int {
	t.Helper()
	told := s.Line("build")
	n, err := strconv.Atoi(strings.TrimSuffix(strings.TrimPrefix(told, "ok "), "\n"))
	if err != nil || told != fmt.Sprintf("ok %d\n", n) {
		t.Fatalf("P24.1: build: %s", brief(told))
	}
	return n
}

// P24.1: the document's example.
func TestExample(t *testing.T) {
	s := shell.New()
	put(t, s, "add default kill", "add read allow")
	builds(t, s)
	tells(t, s, "run x86_64 0", "allow\n")
}

// The ten examples of the whole.
func TestTenExamples(t *testing.T) {
	s := shell.New()
	put(t, s, "add default errno 38", "add read allow", "add write allow if a0 <= 2", "add connect kill")
	builds(t, s)
	tells(t, s, "run x86_64 0", "allow\n")
	tells(t, s, "run x86_64 1 3", "errno 38\n")
	tells(t, s, "run i386 4 0x100000001", "allow\n")
	tells(t, s, "run i386 102 3", "kill\n")
	tells(t, s, "why x32 0x40000000", "x32 read out: kill\n")
}

// P24.1: add: a line more, without words an empty one; a text's lines are counted from 1 on.
func TestAdd(t *testing.T) {
	session(t,
		[2]string{"add default kill", "ok"},
		[2]string{"add", "ok"},
		[2]string{"add # note", "ok"},
		[2]string{"add read deny", "ok"},
		[2]string{"build", "error 14 4 0"},
		[2]string{"text", "error 14 4"},
		[2]string{"why 7 1", "error 14 4"},
	)
	session(t,
		[2]string{"add", "ok"},
		[2]string{"build", "error 4 0 0"},
		[2]string{"add default", "ok"},
		[2]string{"build", "error 13 2 0"},
	)
	session(t,
		[2]string{"add  default\terrno \r 7 # 8", "ok"},
		[2]string{"text", "default errno 7"},
		[2]string{"add x32 on", "ok"},
		[2]string{"text", "default errno 7\nx32 on"},
		[2]string{"add add allow", "ok"},
		[2]string{"text", "default errno 7\nx32 on\nadd allow"},
		[2]string{"clear", "ok"},
		[2]string{"add clear", "ok"},
		[2]string{"text", "error 13 1"},
	)
}

// P24.1: one blank stands between an added line's words, whatever stood there, and its note is none of it: else these were too long.
func TestAddShort(t *testing.T) {
	s := shell.New()
	wide := strings.Repeat(" \t\r", 10000)
	put(t, s, "add default"+wide+"kill", "add"+wide+"read log", "add write trap"+wide+"# "+wide, "add open"+wide+"allow#"+strings.Repeat("x", 30000))
	tells(t, s, "text", "default kill\nopen allow\nread log\nwrite trap\n")
	builds(t, s)
}

// P24.1: a text may have so many bytes as layer 13 lets; each line's end is one of them.
func TestAddLong(t *testing.T) {
	s := shell.New()
	put(t, s, "add default kill")
	left := api.MaxText - len("default kill\n")
	for rule := "futex errno 13 if a0 == 1" + strings.Repeat(" and a1 == 0xffffffffffffffff", 5); left > len(rule); left -= len(rule) + 1 {
		put(t, s, "add "+rule)
	}
	for range left {
		put(t, s, "add")
	}
	tells(t, s, "build", "error 15 0 1\n")
	put(t, s, "add")
	tells(t, s, "build", "error 3 0 0\n")
	tells(t, s, "text", "error 3 0\n")
	tells(t, s, "why x86_64 0", "error 3 0\n")
	put(t, s, "clear", "add default log")
	tells(t, s, "text", "default log\n")
}

// P24.1: clear: no text, no program; the table stays.
func TestClear(t *testing.T) {
	s := shell.New()
	put(t, s, "clear", "add default log", "row aa 900 - - - - 0 0", "drop read")
	builds(t, s)
	tells(t, s, "run x86_64 5", "log\n")
	put(t, s, "clear")
	for _, line := range []string{"list", "run x86_64 5", "test"} {
		tells(t, s, line, "error 18\n")
	}
	tells(t, s, "text", "error 4 0\n")
	tells(t, s, "build", "error 4 0 0\n")
	put(t, s, "add default trap")
	tells(t, s, "why x86_64 900", "x86_64 aa default: trap\n")
	tells(t, s, "why x86_64 0", "x86_64 ? default: trap\n")
	put(t, s, "clear", "clear")
}

// P24.1: row: a row more, in its place.
func TestRow(t *testing.T) {
	s := shell.New()
	put(t, s, "add default kill", "add aa log", "add sz trap", "add zz allow")
	tells(t, s, "build", "error 14 0 0\n")
	put(t, s, "row zz 900 901 902 903 0x388 1 99", "row aa - - 0x3fffffff - - 2 255", "row sz 0x3fffffff - - 0 - 0 0", "row none - - - - - 0 0")
	builds(t, s)
	for line, want := range map[string]string{
		"x86_64 900":           "x86_64 zz rule 2: allow",
		"x32 0x40000385":       "x32 zz out: kill",
		"i386 902":             "i386 zz rule 2: allow",
		"arm64 903":            "arm64 zz rule 2: allow",
		"riscv64 904":          "riscv64 zz rule 2: allow",
		"i386 102 99":          "i386 zz by socketcall rule 2: allow",
		"i386 117 255":         "i386 aa by ipc rule 0: log",
		"i386 1073741823":      "i386 aa rule 0: log",
		"x86_64 1073741823":    "x86_64 sz rule 1: trap",
		"arm64 0":              "arm64 sz rule 1: trap",
		"riscv64 0x3fffffff":   "riscv64 ? default: kill",
		"x86_64 1 2 3 4 5 6 7": "x86_64 write default: kill",
		"0x40000003 102 99":    "i386 zz by socketcall rule 2: allow",
		"1073741827 0x66 0x63": "i386 zz by socketcall rule 2: allow",
	} {
		tells(t, s, "why "+line, want+"\n")
		_, done, _ := strings.Cut(want, ": ")
		tells(t, s, "run "+line, done+"\n")
	}
	put(t, s, "test")
}

// P24.1: of a row that may not be layer 11's error, and nothing is done.
func TestRowWrong(t *testing.T) {
	z31 := strings.Repeat("z", 31)
	for line, e := range map[string]api.Errno{
		"A 900 - - - - 0 0":              api.ErrForm,
		"9 900 - - - - 0 0":              api.ErrForm,
		"~ 900 - - - - 0 0":              api.ErrForm,
		"default 900 - - - - 0 0":        api.ErrForm,
		"x32 900 - - - - 0 0":            api.ErrForm,
		z31 + " 1 1 102 1 1 9 9":         api.ErrForm,
		"read - - - - - 0 0":             api.ErrTwice,
		"read 900 - - - - 0 0":           api.ErrTwice,
		"read 1 - - - - 0 0":             api.ErrTwice,
		"read 900 - 102 - - 0 0":         api.ErrMux,
		"read 0x40000000 - - - - 0 0":    api.ErrRange,
		"read - - - - - 1 1":             api.ErrTwice,
		"aa 1073741824 - 102 - - 0 0":    api.ErrRange,
		"aa - - - - 4294967295 0 0":      api.ErrRange,
		"aa - - - 0xffffffff - 0 0":      api.ErrRange,
		"aa 900 - - - - 3 1":             api.ErrRange,
		"aa 900 - - - - 4294967295 1":    api.ErrRange,
		"aa 900 - - - - 1 0":             api.ErrRange,
		"aa 900 - - - - 2 256":           api.ErrRange,
		"aa 900 - - - - 2 4294967295":    api.ErrRange,
		"aa 900 - - - - 0 1":             api.ErrRange,
		"aa - - 102 - - 0 0":             api.ErrMux,
		"aa - - 117 - - 1 99":            api.ErrMux,
		"aa 0 - - - - 0 0":               api.ErrTwice,
		"zz 0 - - - - 0 0":               api.ErrTwice,
		"aa - 512 - - - 0 0":             api.ErrTwice,
		"aa - - - 63 - 0 0":              api.ErrTwice,
		"aa - - - - 259 0 0":             api.ErrTwice,
		"aa - - - - - 1 3":               api.ErrTwice,
		"zz - - - - - 2 0x18":            api.ErrTwice,
		z31[1:] + " - - 0x6 - - 0x0 0x0": api.ErrTwice,
	} {
		s := shell.New()
		put(t, s, "add default log", "add read trap")
		tells(t, s, "row "+line, fmt.Sprintf("error %d\n", e))
		tells(t, s, "why x86_64 0", "x86_64 read rule 0: trap\n")
		tells(t, s, "why x86_64 900", "x86_64 ? default: log\n")
		builds(t, s)
		put(t, s, "test")
		if name := strings.Fields(line)[0]; name != "read" {
			tells(t, s, "drop "+name, "error 14\n")
		}
		put(t, s, "drop read", "row read 0 0 3 63 63 0 0", "row recv2 - - - - - 2 255")
	}
}

// P24.1: a table that has all rows that it may have gets none more.
func TestRowLong(t *testing.T) {
	s := shell.New()
	put(t, s, "add default log")
	for at := len(systab.Builtin()); at < api.MaxRows; at++ {
		put(t, s, fmt.Sprintf("row n%d %d - - - - 0 0", at, 1000+at))
	}
	for _, line := range []string{"row z - - - - - 0 0", "row read - - - - - 0 0", "row A - - - - - 0 0", "row aa - - 102 - - 0 0"} {
		tells(t, s, line, "error 3\n")
	}
	tells(t, s, "why x86_64 1399", "x86_64 n399 default: log\n")
	put(t, s, "drop n399", "row z - - - - - 0 0")
	tells(t, s, "row zz - - - - - 0 0", "error 3\n")
}

// P24.1: drop: that row no more; error 14, if there is none.
func TestDrop(t *testing.T) {
	session(t,
		[2]string{"add default allow", "ok"},
		[2]string{"add open kill", "ok"},
		[2]string{"why x86_64 2", "x86_64 open rule 0: kill"},
		[2]string{"drop open", "ok"},
		[2]string{"why x86_64 2", "x86_64 ? default: allow"},
		[2]string{"drop open", "error 14"},
		[2]string{"drop OPEN", "error 14"},
		[2]string{"drop drop", "error 14"},
		[2]string{"build", "error 14 0 0"},
		[2]string{"why x86_64 0", "x86_64 read default: allow"},
	)
	s := shell.New()
	put(t, s, "add default trap")
	for _, row := range systab.Builtin() {
		put(t, s, "drop "+row.Name)
	}
	builds(t, s)
	put(t, s, "test")
	tells(t, s, "why i386 3", "i386 ? default: trap\n")
	tells(t, s, "drop read", "error 14\n")
	put(t, s, "row read - - 3 - - 0 0")
	tells(t, s, "why i386 3", "i386 read default: trap\n")
}

// P24.1: build: how many instructions its program has, which list tells; it is layer 22's.
func TestBuild(t *testing.T) {
	for _, text := range []string{
		"default kill",
		"default kill\nread allow",
		"default errno 38\nx32 on\nread allow if a0 == 1 and a1 & 3 == 2\nwrite trap\nconnect log",
		"default log\nopen errno 1 if a0 > 0x100000000\nopen kill\nmsgget allow",
	} {
		s := shell.New()
		for line := range strings.SplitSeq(text, "\n") {
			put(t, s, "add "+line)
		}
		tells(t, s, "list", "error 18\n")
		n := builds(t, s)
		o, e := build.Compile(text, systab.Builtin())
		l, _ := inst.Read(o.Program)
		if e != api.OK || n != len(l) {
			t.Errorf("P24.1: %q: %d instructions, not %d", text, n, len(l))
		}
		tells(t, s, "list", list.Text(l))
		if m := builds(t, s); m != n {
			t.Errorf("R5: %d instructions, not %d", m, n)
		}
		tells(t, s, "list", list.Text(l))
	}
}

// P24.1: build tells layer 22's error, the line, and the rule; there is no program then, the one that was there neither.
func TestBuildWrong(t *testing.T) {
	for text, want := range map[string]string{
		"":                                       "4 0 0",
		"read allow":                             "13 1 0",
		"default kill\n\nopen errno 4096":        "16 3 0",
		"default kill\nread log\n\nread log":     "15 0 1",
		"default kill\nread log\nnope log":       "14 0 1",
		"default kill\nread log if a0 & 1 == 2":  "16 0 0",
		"default kill\nconnect log if a0 == 1":   "17 0 0",
		"default kill\nread log if a6 == 1":      "16 2 0",
		"default kill\nread log\nopen\nopen kil": "13 3 0",
	} {
		s := shell.New()
		for line := range strings.SplitSeq(text, "\n") {
			put(t, s, "add "+line)
		}
		tells(t, s, "build", "error "+want+"\n")
		tells(t, s, "list", "error 18\n")
	}
	s := shell.New()
	put(t, s, "add default kill")
	builds(t, s)
	put(t, s, "add read log", "add read log")
	tells(t, s, "run x86_64 0", "kill\n")
	tells(t, s, "build", "error 15 0 1\n")
	for _, line := range []string{"list", "run x86_64 0", "test"} {
		tells(t, s, line, "error 18\n")
	}
}

// P24.1: a program that is too long is layer 22's error, of no line and no rule.
func TestBuildLong(t *testing.T) {
	s := shell.New()
	put(t, s, "add default kill")
	for at := range 400 {
		put(t, s, fmt.Sprintf("add read errno %d if a0 == %d and a1 == %d and a2 == %d and a3 == %d", at, at, at, at, at))
	}
	tells(t, s, "build", "error 3 0 0\n")
	tells(t, s, "list", "error 18\n")
	tells(t, s, "why x86_64 0 399 399 399 399", "x86_64 read rule 399: errno 399\n")
}

// P24.1: text: the own text of the normal form; whether the policy is valid does not count.
func TestText(t *testing.T) {
	s := session(t,
		[2]string{"text", "error 4 0"},
		[2]string{"add default kill # all", "ok"},
		[2]string{"text", "default kill"},
		[2]string{"add x32 off", "ok"},
		[2]string{"add write log if a1 <= 0 and a0 >= 0", "ok"},
		[2]string{"add nope trap if a5 & 0xff == 3", "ok"},
		[2]string{"add read kill", "ok"},
		[2]string{"add read allow", "ok"},
		[2]string{"add nope kill", "ok"},
		[2]string{"text", "default kill\nnope trap if a5 & 255 == 3\nwrite log if a1 == 0"},
		[2]string{"text", "default kill\nnope trap if a5 & 255 == 3\nwrite log if a1 == 0"},
		[2]string{"add connect errno 0x1", "ok"},
		[2]string{"text", "error 13 8"},
	)
	put(t, s, "clear", "add default errno 0", "add x32 on")
	tells(t, s, "text", "default errno 0\nx32 on\n")
}

// P24.1: an own text that is too long is layer 14's error, of no line: figures behind 0x are fewer than decimal ones.
func TestTextLong(t *testing.T) {
	s := shell.New()
	put(t, s, "add default kill")
	for at := range 205 {
		var conds []string
		for arg := range 6 {
			conds = append(conds, fmt.Sprintf("a%d & 0xffffffffffffff00 == 0xfffffffffffff000", arg))
		}
		put(t, s, fmt.Sprintf("add n%d log if %s", at, strings.Join(conds, " and ")))
	}
	tells(t, s, "text", "error 3 0\n")
	tells(t, s, "build", "error 14 0 0\n")
	tells(t, s, "why x86_64 0", "x86_64 read default: kill\n")
}

// P24.1: run: a record of an ABI's token, or of a token, of the number as it stands, with the arguments, those that are missing 0.
func TestRun(t *testing.T) {
	s := shell.New()
	put(t, s, "add default errno 4095", "add x32 on", "add read trap if a5 == 6 and a4 == 5 and a3 == 4 and a2 == 3 and a1 == 2 and a0 == 1", "add read kill_thread if a0 == 0xffffffffffffffff", "add read allow if a0 == 0", "add write trace 65535", "add getpid notify", "add ioctl log", "add send kill")
	tells(t, s, "run x86_64 0", "error 18\n")
	builds(t, s)
	for line, want := range map[string]string{
		"x86_64 0":                          "allow",
		"x86_64 0 0 9 9 9 9 9":              "allow",
		"x86_64 0 1 2 3 4 5 6":              "trap",
		"x86_64 0 1 2 3 4 5":                "errno 4095",
		"x86_64 0 0x1 0x2 0x3 0x4 0x5 0x6":  "trap",
		"x86_64 0 18446744073709551615":     "kill_thread",
		"x86_64 0 0xffffffffffffffff":       "kill_thread",
		"x86_64 0 0xffffffff":               "errno 4095",
		"i386 3 0x100000000":                "allow",
		"i386 3 0xa00000001 2 3 4 5 6":      "trap",
		"i386 3 0xffffffffffffffff":         "errno 4095",
		"i386 0":                            "errno 4095",
		"arm64 63":                          "allow",
		"riscv64 63":                        "allow",
		"arm64 64":                          "trace 65535",
		"riscv64 172":                       "notify",
		"i386 102 9":                        "kill",
		"i386 102 0x100000009":              "kill",
		"x86_64 16":                         "log",
		"x86_64 514":                        "errno 4095",
		"x32 514":                           "errno 4095",
		"x32 16":                            "log",
		"x32 0x40000202":                    "log",
		"x86_64 0x40000202":                 "log",
		"x32 0x40000010":                    "errno 4095",
		"x32 0":                             "allow",
		"x32 0x40000000":                    "allow",
		"x86_64 4294967295":                 "errno 4095",
		"x32 0xffffffff":                    "errno 4095",
		"3221225534 1":                      "trace 65535",
		"0xc000003e 1":                      "trace 65535",
		"0x40000003 4":                      "trace 65535",
		"0xc00000b7 64":                     "trace 65535",
		"0xc00000f3 64":                     "trace 65535",
		"0 0":                               "kill",
		"0xffffffff 0":                      "kill",
		"4294967295 4294967295 1 2 3 4 5 6": "kill",
	} {
		tells(t, s, "run "+line, want+"\n")
	}
	// The program is that of the last build, whatever the text and the table are now.
	put(t, s, "add read kill", "drop read")
	tells(t, s, "run x86_64 0", "allow\n")
	tells(t, s, "why x86_64 0", "x86_64 ? default: errno 4095\n")
}

// P24.1: why: the reason by the policy and the table as they are, without a program, too, and of a policy that is not valid.
func TestWhy(t *testing.T) {
	session(t,
		[2]string{"why x86_64 0", "error 4 0"},
		[2]string{"add default errno 9", "ok"},
		[2]string{"why x86_64 0", "x86_64 read default: errno 9"},
		[2]string{"add read log if a0 == 0x10", "ok"},
		[2]string{"add read log if a0 == 16", "ok"},
		[2]string{"add nope trap", "ok"},
		[2]string{"add connect trap", "ok"},
		[2]string{"why x86_64 0 16", "x86_64 read rule 0: log"},
		[2]string{"why x86_64 0 17", "x86_64 read default: errno 9"},
		[2]string{"why i386 3 0x100000010", "i386 read rule 0: log"},
		[2]string{"why i386 102 3", "i386 connect by socketcall rule 3: trap"},
		[2]string{"why i386 117", "i386 ? by ipc default: errno 9"},
		[2]string{"why 5 0", "none: kill"},
		[2]string{"why x32 0x40000000", "x32 read out: kill"},
		[2]string{"why x32 0", "x86_64 read default: errno 9"},
		[2]string{"why x32 0xffffffff", "x86_64 ? default: errno 9"},
		[2]string{"why x86_64 999", "x86_64 ? default: errno 9"},
		[2]string{"row nope 999 - - - - 0 0", "ok"},
		[2]string{"why 3221225534 0x3e7", "x86_64 nope rule 2: trap"},
		[2]string{"add read", "ok"},
		[2]string{"why x86_64 0", "error 13 6"},
		[2]string{"run x86_64 0", "error 18"},
	)
}

// P24.1: test: ok, or the number of the first probe at which the program differs from the policy; the probes are those of the table as it is.
func TestTest(t *testing.T) {
	s := session(t,
		[2]string{"test", "error 18"},
		[2]string{"add default kill", "ok"},
		[2]string{"test", "error 18"},
		[2]string{"add nope", "ok"},
		[2]string{"test", "error 18"}, // ahead of the policy's
		[2]string{"clear", "ok"},
	)
	put(t, s, "add default kill", "add read allow", "add write log if a0 == 1")
	builds(t, s)
	// What can't be compiled judges all the same.
	put(t, s, "test", "add accept kill", "test", "add nope log", "test", "add write log if a0 == 1", "test")
	put(t, s, "add brk log")
	tells(t, s, "test", "differs 3\n")
	put(t, s, "add accept trap if a0 == 0", "add accept4 log")
	tells(t, s, "test", "differs 1\n")
	put(t, s, "add accept4")
	tells(t, s, "test", "error 13 10\n")
	put(t, s, "clear", "add default trap")
	builds(t, s)
	put(t, s, "test", "row aa 5000 5000 5000 5000 5000 0 0", "test", "add aa allow")
	tells(t, s, "test", "differs 0\n")
	put(t, s, "drop aa", "test", "row zz - - - - 5000 0 0", "add zz allow")
	tells(t, s, "test", fmt.Sprintf("differs %d\n", 78+78+77+65+66))
	put(t, s, "drop zz", "test", "clear")
	tells(t, s, "test", "error 18\n")
}

// wrongLines tells lines that are none, or have a number that is none, too many words, or too few.
func wrongLines() []string {
	l := []string{"foo", "ADD default kill", "ad", "adds", "add: x", "ok", "error 19", "-", "0", "~", "clear all", "row", "drop", "drop read write", "build it", "list 1", "text x", "run", "why", "run x86_64", "why x86_64", "run x86_64 0 1 2 3 4 5 6 7", "why x86_64 0 1 2 3 4 5 6 7", "test 1"}
	for _, does := range []string{"run ", "why "} {
		for _, abi := range []string{"x86", "X32", "i386x", "-1", "0x", "0X7", "007", "0xC000003E", "4294967296", "0x100000000", "18446744073709551616"} {
			l = append(l, does+abi+" 0")
		}
		for _, n := range []string{"-1", "-", "+1", "01", "0x01", "0xA", "0x", "x", "1.", "1e3", "4294967296", "0x100000000", "99999999999999999999"} {
			l = append(l, does+"x86_64 "+n, does+"7 "+n+" 1")
		}
		for _, n := range []string{"-1", "-", "00", "0x00", "0xF", "a0", "18446744073709551616", "0x10000000000000000"} {
			l = append(l, does+"i386 3 "+n, does+"i386 3 1 2 3 4 5 "+n)
		}
	}
	for _, row := range []string{"aa", "aa 1", "aa - - - - - 0", "aa - - - - - 0 0 0", "aa - - - - 0 0", "aa x - - - - 0 0", "aa - -1 - - - 0 0", "aa - - -- - - 0 0", "aa - - - 01 - 0 0", "aa - - - - 0xA 0 0", "aa 4294967296 - - - - 0 0", "aa - - - - 0x100000000 0 0", "aa 1 1 1 1 1 - 0", "aa 1 1 1 1 1 0 -", "aa 1 1 1 1 1 4294967296 0", "aa 1 1 1 1 1 1 4294967296", "aa 1 1 1 1 1 00 1", "AA - - 102 - x 0 0", "read 0 - - - - x 0", "900 - - - - 0 0"} {
		l = append(l, "row "+row)
	}
	return l
}

// P24.1: a line that is none, a number that is none, too many words, too few: error 19, ahead of all else; nothing is done.
func TestWrongLines(t *testing.T) {
	empty, full := shell.New(), shell.New()
	put(t, full, "add default kill", "add read log")
	builds(t, full)
	was := full.Line("list")
	for _, line := range wrongLines() {
		tells(t, empty, line, "error 19\n")
		tells(t, full, line, "error 19\n")
	}
	tells(t, empty, "text", "error 4 0\n")
	tells(t, empty, "list", "error 18\n")
	tells(t, empty, "drop aa", "error 14\n")
	put(t, empty, "drop read", "drop write")
	tells(t, full, "text", "default kill\nread log\n")
	tells(t, full, "list", was)
	put(t, full, "test")
}

// P24.1: error 13 of a byte that layer 13 does not let, or of a line's end, ahead of all else; in a note any byte but the line's end may stand.
func TestWrongBytes(t *testing.T) {
	s := shell.New()
	put(t, s, "add default kill")
	for b := range 256 {
		text := string([]byte{byte(b)})
		want := "ok\n"
		if b == 10 || b < 32 && b != 9 && b != 13 || b > 126 {
			want = "error 13\n"
		}
		tells(t, s, "add"+" "+text, want)
		if b == 10 {
			tells(t, s, "add # "+text, "error 13\n")
		} else {
			tells(t, s, "add # "+text, "ok\n")
			tells(t, s, "#"+text, "")
		}
		if want != "ok\n" {
			tells(t, s, text, want)
			tells(t, s, "foo "+text, want)
			tells(t, s, text+"build", want)
			tells(t, s, "run x86_64 0 "+text, want)
		}
	}
	for _, line := range []string{"\n", "clear\n", "\nclear", "test\ntest", " \n ", "# x\n", "add \u00e9", "add \u2028", "clear \xff"} {
		tells(t, s, line, "error 13\n")
	}
	tells(t, s, "clear # \u00e9\xff\x00", "ok\n")
}

// P24.1: nothing is told of what is nothing.
func TestNothing(t *testing.T) {
	s := shell.New()
	for _, line := range []string{"", " ", "\t", "\r", " \t\r ", "#", "# add default kill", " \t#\x00", "##"} {
		tells(t, s, line, "")
	}
	tells(t, s, "text", "error 4 0\n")
}

// P24.1: of nil error 18.
func TestNil(t *testing.T) {
	var s *shell.Shell
	for _, line := range []string{"add default kill", "clear", "row aa - - - - - 0 0", "drop read", "build", "list", "text", "run x86_64 0", "why x86_64 0", "test", "foo"} {
		tells(t, s, line, "error 18\n")
	}
	tells(t, s, "add \x01", "error 13\n")
	// Of a shell that New did not make nothing is promised, but that it does not panic.
	for _, line := range append(wrongLines(), "add default kill", "row aa - - - - - 0 0", "build", "list", "text", "run x86_64 0", "why x86_64 0", "test", "drop aa", "drop aa") {
		new(shell.Shell).Line(line)
	}
}

// P24.1: a line that is too long for layer 13 is its error, and nothing is done.
func TestLongLine(t *testing.T) {
	s := shell.New()
	put(t, s, "add default kill", "add read log #"+strings.Repeat("x", api.MaxText-len("add read log #")))
	tells(t, s, "add write log "+strings.Repeat(" ", api.MaxText), "error 3\n")
	tells(t, s, "text", "default kill\nread log\n")
	put(t, s, "clear", "add "+strings.Repeat("x", api.MaxText-len("add ")))
	tells(t, s, "text", "error 13 1\n")
}

// P24.1: Run: what all lines tell; a line that can't be done does not end it.
func TestRunLines(t *testing.T) {
	for lines, want := range map[string]string{
		"":                      "",
		"\n":                    "",
		" # x\n\n\r\n":          "",
		"clear":                 "ok\n",
		"clear\n":               "ok\n",
		"clear\r\nclear\r":      "ok\nok\n",
		"foo\nclear\x01\nclear": "error 19\nerror 13\nok\n",
		"\x00\n#\x00\n\x00":     "error 13\nerror 13\n",
		"add default kill\nadd read log # \xff\ntext\nlist\ntext": "ok\nok\ndefault kill\nread log\nerror 18\ndefault kill\nread log\n",
		"text\nadd default log\ntext\nclear\ntext":                "error 4 0\nok\ndefault log\nok\nerror 4 0\n",
	} {
		for range 2 { // R5: a new shell each time
			if told, e := shell.Run(lines); told != want || e != api.OK {
				t.Errorf("P24.1: %q: %q, %d, not %q", lines, told, e, want)
			}
		}
	}
}

// P24.1: ErrLong, if lines has more than MaxText bytes, whatever they are.
func TestRunLong(t *testing.T) {
	clears := strings.Repeat("clear\n", api.MaxText/6) // 4 bytes are left
	for _, behind := range []string{"", "    ", "#xyz", "\n\n\n\n"} {
		if told, e := shell.Run(clears + behind); told != strings.Repeat("ok\n", api.MaxText/6) || e != api.OK {
			t.Errorf("P24.1: %d bytes: %d", len(clears+behind), e)
		}
		if told, e := shell.Run(clears + behind + "     "[len(behind):]); told != "" || e != api.ErrLong {
			t.Errorf("P24.1: more than MaxText bytes: %s, %d", brief(told), e)
		}
	}
	if told, e := shell.Run(strings.Repeat("\x00", 1<<17)); told != "" || e != api.ErrLong {
		t.Errorf("P24.1: %s, %d", brief(told), e)
	}
}

// Two shells have nothing in common.
func TestApart(t *testing.T) {
	a, b := shell.New(), shell.New()
	put(t, a, "add default kill", "drop read")
	builds(t, a)
	tells(t, b, "text", "error 4 0\n")
	tells(t, b, "list", "error 18\n")
	put(t, b, "add default log", "drop write", "row aa 1 - - - - 0 0")
	tells(t, a, "why x86_64 0", "x86_64 ? default: kill\n")
	tells(t, a, "why x86_64 1", "x86_64 write default: kill\n")
	tells(t, b, "why x86_64 0", "x86_64 read default: log\n")
	tells(t, b, "why x86_64 1", "x86_64 aa default: log\n")
	put(t, a, "test")
}

// chance tells numbers that are the same each time.
type chance uint64

func (c *chance) below(n int) int {
	*c = *c*6364136223846793005 + 1442695040888963407
	mixed := uint64(*c>>32) ^ uint64(*c>>47)
	return int((mixed * 0x9e3779b97f4a7c15 >> 33) % uint64(n))
}

// one tells one of some words.
func (c *chance) one(words ...string) string { return words[c.below(len(words))] }

// some tells a few words behind one another, each of them one of some.
func (c *chance) some(most int, words ...string) string {
	l := ""
	for range c.below(most + 1) {
		l += " " + c.one(words...)
	}
	return l
}

// line tells the words of a shell's line, mostly of one that can be done.
func (c *chance) line() string {
	action := c.one("allow", "log", "trap", "errno 7", "kill", "trace 300")
	name := c.one("read", "write", "open", "connect", "aa", "recv")
	asked := c.one("", "", " if a0 == 1", " if a1 & 3 == 2 and a0 < 5", " if a0 > 0xffffffff", " if a2 >= 0")
	switch c.below(20) {
	case 0:
		return "clear"
	case 1, 2, 3:
		return "clear\nadd default " + action + c.one("", "\nadd x32 on", "\nadd") + "\nadd " + name + " " + c.one("allow", "log", "errno 1") + asked + c.one("", "\nbuild", "\nbuild", "\nbuild\nadd read kill\ntest")
	case 4, 5, 6:
		return "add " + name + " " + action + asked
	case 7:
		return "add" + c.some(3, "default", "x32", "on", "read", "kill", "if", "deny", "errno", "4096")
	case 8:
		return "row " + c.one("aa", "zz", "read", "recv", "A") + " " + c.one("-", "0", "900", "2") + " - " + c.one("3", "102", "-", "-", "901", "0x40000000") + " - " + c.one("63", "900", "-") + " " + c.one("0 0", "0 0", "0 0", "1 3", "1 99", "3 0", "0 1")
	case 9:
		return "drop " + c.one("read", "write", "aa", "zz", "recv", "nope")
	case 10, 11, 12:
		return "build"
	case 13:
		return c.one("text", "list", "test", "test")
	case 14, 15, 16:
		return "run " + c.one("x86_64", "x32", "i386", "riscv64", "0xc00000b7", "5") + " " + c.one("0", "1", "2", "3", "102", "63", "0x40000000", "900") + c.some(6, "0", "1", "2", "3", "0x100000001", "99")
	case 17, 18:
		return "why " + c.one("x86_64", "x32", "i386", "arm64") + " " + c.one("0", "2", "4", "63", "102", "0x40000000", "900") + c.some(3, "0", "1", "2", "3", "99")
	}
	return c.one("", "foo", "run", "why x86_64", "list all", "row aa", "run x86_64 0 01", "why x86 0", "drop", "build 1")
}

// blank tells a line with other blanks between its words, and perhaps a note.
func (c *chance) blank(line string) string {
	told := c.one("", " ", "\t\t", "\r ")
	for _, word := range strings.Fields(line) {
		told += word + c.one(" ", "  ", "\t", "\r", " \t\r")
	}
	return told + c.one("", "", "#", "# allow", "#\x01#\xff", " # 1\t2")
}

// second is a shell as the document's words tell it, one by one.
type second struct {
	text    []string
	table   []systab.Row
	program []byte
}

// line tells what a line ought to tell.
func (s *second) line(line string) string {
	words := strings.Fields(line)
	if len(words) == 0 {
		return ""
	}
	if told := wrong(words); told {
		return "error 19\n"
	}
	behind := words[1:]
	switch words[0] {
	case "add":
		s.text = append(s.text, strings.Join(behind, " "))
	case "clear":
		s.text, s.program = nil, nil
	case "row":
		return s.row(behind)
	case "drop":
		had := len(s.table)
		s.table = slices.DeleteFunc(s.table, func(r systab.Row) bool { return r.Name == behind[0] })
		if len(s.table) == had {
			return "error 14\n"
		}
	case "build":
		o, e := build.Compile(strings.Join(s.text, "\n"), s.table)
		s.program = o.Program
		if e != api.OK {
			return fmt.Sprintf("error %d %d %d\n", e, o.Line, o.Rule)
		}
		return fmt.Sprintf("ok %d\n", len(o.Program)/8)
	case "list", "run":
		return s.ran(words[0], behind)
	default:
		return s.asked(words[0], behind)
	}
	return "ok\n"
}

// wrong: is a line none, or has it a number that is none, too many words, or too few? Of the numbers that line tells only few are none.
func wrong(words []string) bool {
	least := map[string]int{"add": 1, "clear": 1, "row": 9, "drop": 2, "build": 1, "list": 1, "text": 1, "run": 3, "why": 3, "test": 1}
	most := maps.Clone(least)
	most["add"], most["run"], most["why"] = 100, 9, 9
	n := len(words)
	return n < least[words[0]] || n > most[words[0]] || slices.Contains(words[1:], "01") || slices.Contains(words[1:], "x86")
}

// number tells one that is none of the wrong ones; absent is -1.
func number(word string) int {
	n, err := strconv.ParseInt(word, 0, 64)
	if err != nil {
		return -1
	}
	return int(n)
}

func (s *second) row(words []string) string {
	r := systab.Row{Name: words[0], Mux: number(words[6]), Sub: number(words[7])}
	for a := range 5 {
		r.Numbers[a] = number(words[1+a])
	}
	table := append([]systab.Row{r}, s.table...)
	sort.SliceStable(table, func(i, j int) bool { return table[i].Name < table[j].Name })
	if _, e := systab.Right(table); e != api.OK {
		return fmt.Sprintf("error %d\n", e)
	}
	s.table = table
	return "ok\n"
}

func toldRecord(words []string) data.Record {
	tokens := map[string]int{"x86_64": 0xc000003e, "x32": 0xc000003e, "i386": 0x40000003, "arm64": 0xc00000b7, "riscv64": 0xc00000f3}
	arch, ok := tokens[words[0]]
	if !ok {
		arch = number(words[0])
	}
	r := data.Record{Arch: uint32(arch), Number: uint32(number(words[1]))}
	for at, word := range words[2:] {
		r.Args[at] = uint64(number(word))
	}
	return r
}

// ran tells what lines tell that ask the program alone.
func (s *second) ran(does string, words []string) string {
	if s.program == nil {
		return "error 18\n"
	}
	if does == "list" {
		l, _ := inst.Read(s.program)
		return list.Text(l)
	}
	b := data.Write(toldRecord(words), false)
	code, _ := build.Run(s.program, b[:])
	a, _ := act.From(code)
	return act.Text(a) + "\n"
}

// asked tells what lines tell that ask the policy, too.
func (s *second) asked(does string, words []string) string {
	if does == "test" && s.program == nil {
		return "error 18\n"
	}
	p, at, e := policy.Parse(strings.Join(s.text, "\n"))
	if e != api.OK {
		return fmt.Sprintf("error %d %d\n", e, at)
	}
	switch does {
	case "text":
		n, _ := norm.Policy(p)
		own, _ := policy.Print(n)
		return own
	case "why":
		x, _ := judge.Why(p, s.table, toldRecord(words))
		return judge.Text(x) + "\n"
	}
	if n, _ := judge.Differ(s.program, p, s.table, judge.Probes(s.table)); n >= 0 {
		return fmt.Sprintf("differs %d\n", n)
	}
	return "ok\n"
}

// P24.1, P24.2: over many lines, held against a second telling of the document's words, with other blanks and notes, too.
func TestManyLines(t *testing.T) {
	var c chance
	met := map[string]int{}
	for range 25 {
		plain, blank, told := shell.New(), shell.New(), second{table: systab.Builtin()}
		all, blankAll, want := "", "", ""
		for range 60 {
			for line := range strings.SplitSeq(c.line(), "\n") {
				tell := told.line(line)
				other := c.blank(line)
				tells(t, plain, line, tell)
				tells(t, blank, other, tell)
				all, blankAll, want = all+line+"\n", blankAll+other+"\n", want+tell
				first, _, _ := strings.Cut(line, " ")
				word, _, _ := strings.Cut(tell, " ")
				met[first+" "+strings.TrimSpace(word)]++
			}
		}
		for _, lines := range []string{all, blankAll} {
			if s, e := shell.Run(lines); s != want || e != api.OK {
				t.Errorf("P24.2: Run: %d", e)
			}
		}
		if t.Failed() {
			t.FailNow()
		}
	}
	for _, kind := range []string{"add ok", "row ok", "row error", "drop ok", "drop error", "build ok", "build error", "text default", "text error", "list error", "run allow", "run errno", "run kill", "run error", "why x86_64", "why error", "test ok", "test differs", "test error"} {
		if met[kind] < 3 {
			t.Errorf("%s: %d", kind, met[kind])
		}
	}
}

// P24.2: a line is the same with blanks and notes, whatever it tells.
func TestBlanks(t *testing.T) {
	var c chance
	for _, line := range append(wrongLines(), "add default kill", "add  read   log", "list", "text", "why x86_64 0 1", "drop read", "build") {
		a, b := shell.New(), shell.New()
		put(t, a, "add default trap")
		put(t, b, "add\tdefault  trap # and what it is for")
		for range 3 {
			tells(t, b, c.blank(line), a.Line(line))
			tells(t, b, c.blank("text"), a.Line("text"))
		}
	}
}
