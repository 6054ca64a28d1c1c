package script_test

import (
	"math"
	"math/rand"
	"regexp"
	"slices"
	"strconv"
	"strings"
	"testing"

	"drumlin/api"
	"drumlin/script"
	"drumlin/sys"
)

// same: are they alike, none and an empty list being the same?
func same(a, b script.Cmd) bool {
	return a.Kind == b.Kind && a.Pid == b.Pid && a.N == b.N && sameCall(a.Call, b.Call) && slices.Equal(a.Keep, b.Keep) && slices.Equal(a.Segs, b.Segs)
}

func sameCall(a, b sys.Call) bool {
	return a.Op == b.Op && a.A == b.A && a.B == b.B && a.S == b.S && a.T == b.T && string(a.Data) == string(b.Data)
}

// row: 0 and on, so many.
func row(n int) []int {
	var list []int
	for i := range n {
		list = append(list, i)
	}
	return list
}

// P26.1: the kinds' numbers.
func TestKinds(t *testing.T) {
	kinds := []int{script.Call, script.Issue, script.Step, script.Tick, script.Flush, script.Checkpoint, script.Clean, script.Arm, script.Crash, script.Mount, script.Dump, script.Check, script.Ready, script.Uses}
	for i, kind := range kinds {
		if kind != i+1 {
			t.Errorf("P26.1: the kind %d is %d", i+1, kind)
		}
	}
}

// P26.1: commands and their lines.
func TestText(t *testing.T) {
	long := strings.Repeat("a", 5000)
	keep := make([]bool, 3000)
	keep[2999] = true
	for want, c := range map[string]script.Cmd{
		"1 open a 11":                {Kind: script.Call, Pid: 1, Call: sys.Call{Op: sys.Open, S: "a", A: 11}},
		"999999 fork":                {Kind: script.Call, Pid: 999999, Call: sys.Call{Op: sys.Fork}},
		"10 seek 3 -4000000":         {Kind: script.Call, Pid: 10, Call: sys.Call{Op: sys.Seek, A: 3, B: -4000000}},
		"1 sleep -1":                 {Kind: script.Call, Pid: 1, Call: sys.Call{Op: sys.Sleep, A: -1}},
		"1 exit 9223372036854775807": {Kind: script.Call, Pid: 1, Call: sys.Call{Op: sys.Exit, A: math.MaxInt}},
		"2 write 0 %0A%20x":          {Kind: script.Call, Pid: 2, Call: sys.Call{Op: sys.Write, Data: []byte("\n x")}},
		"2 rename % flush":           {Kind: script.Call, Pid: 2, Call: sys.Call{Op: sys.Rename, T: "flush"}},
		"3 stat " + long:             {Kind: script.Call, Pid: 3, Call: sys.Call{Op: sys.Stat, S: long}},
		"issue 2 fork":               {Kind: script.Issue, Pid: 2, Call: sys.Call{Op: sys.Fork}},
		"issue 999999 link a%25 b":   {Kind: script.Issue, Pid: 999999, Call: sys.Call{Op: sys.Link, S: "a%", T: "b"}},
		"step 1":                     {Kind: script.Step, Pid: 1},
		"step 3":                     {Kind: script.Step, Pid: 3},
		"step 999999":                {Kind: script.Step, Pid: 999999},
		"tick 0":                     {Kind: script.Tick},
		"tick 10":                    {Kind: script.Tick, N: 10},
		"tick 999999":                {Kind: script.Tick, N: 999999},
		"flush":                      {Kind: script.Flush},
		"checkpoint":                 {Kind: script.Checkpoint},
		"clean":                      {Kind: script.Clean},
		"clean 3 4":                  {Kind: script.Clean, Segs: []int{3, 4}},
		"clean 999999 0 0":           {Kind: script.Clean, Segs: []int{999999, 0, 0}},
		"clean 0 1 2 3 4 5 6 7 8 9 10 11 12 13 14 15 16 17 18 19": {Kind: script.Clean, Segs: row(20)},
		"arm 0":      {Kind: script.Arm},
		"arm 999999": {Kind: script.Arm, N: 999999},
		"crash":      {Kind: script.Crash},
		"crash 0":    {Kind: script.Crash, Keep: []bool{false}},
		"crash 1":    {Kind: script.Crash, Keep: []bool{true}},
		"crash 101":  {Kind: script.Crash, Keep: []bool{true, false, true}},
		"crash " + strings.Repeat("0", 2999) + "1": {Kind: script.Crash, Keep: keep},
		"mount": {Kind: script.Mount},
		"dump":  {Kind: script.Dump},
		"check": {Kind: script.Check},
		"ready": {Kind: script.Ready},
		"uses":  {Kind: script.Uses},
	} {
		if s := c.Text(); s != want {
			t.Errorf("P26.1: the text of %v is %.80q, want %.80q", c, s, want)
		}
		if x, e := script.Parse(want); e != api.OK || !same(x, c) {
			t.Errorf("P26.1: Parse(%.80q) = %v, %v", want, x, e)
		}
	}
}

// P26.1: commands that may not be have no line; where another kind doesn't use what is wrong there, it has one.
func TestTextOfNone(t *testing.T) {
	fork := sys.Call{Op: sys.Fork}
	for _, c := range []script.Cmd{
		{},
		{Pid: 1, N: 1, Call: fork},
		{Kind: -1},
		{Kind: 15},
		{Kind: math.MinInt},
		{Kind: math.MaxInt},
		{Kind: script.Call, Call: fork},
		{Kind: script.Call, Pid: -1, Call: fork},
		{Kind: script.Call, Pid: 1000000, Call: fork},
		{Kind: script.Call, Pid: math.MinInt, Call: fork},
		{Kind: script.Call, Pid: math.MaxInt, Call: fork},
		{Kind: script.Call, Pid: 1},
		{Kind: script.Call, Pid: 1, Call: sys.Call{Op: 30}},
		{Kind: script.Call, Pid: 1, Call: sys.Call{Op: -1, S: "a"}},
		{Kind: script.Issue, Call: fork},
		{Kind: script.Issue, Pid: 1},
		{Kind: script.Issue, Pid: 1000000, Call: fork},
		{Kind: script.Issue, Pid: 1, Call: sys.Call{Op: math.MaxInt}},
		{Kind: script.Step},
		{Kind: script.Step, Pid: -1},
		{Kind: script.Step, Pid: 1000000},
		{Kind: script.Tick, N: -1},
		{Kind: script.Tick, N: 1000000},
		{Kind: script.Tick, N: math.MinInt},
		{Kind: script.Arm, N: -1},
		{Kind: script.Arm, N: 1000000},
		{Kind: script.Arm, N: math.MaxInt},
		{Kind: script.Clean, Segs: row(21)},
		{Kind: script.Clean, Segs: row(100000)},
		{Kind: script.Clean, Segs: []int{-1}},
		{Kind: script.Clean, Segs: []int{0, 1000000}},
		{Kind: script.Clean, Segs: []int{math.MinInt, 0}},
	} {
		if s := c.Text(); s != "" {
			t.Errorf("P26.1: the text of %v is %q", c, s)
		}
	}
	for kind, want := range map[int]string{script.Call: "1 fork", script.Issue: "issue 1 fork", script.Step: "step 1"} {
		c := script.Cmd{Kind: kind, Pid: 1, N: -1, Call: fork, Keep: []bool{true}, Segs: row(21)}
		if s := c.Text(); s != want {
			t.Errorf("P26.1: the text of %v is %q, want %q", c, s, want)
		}
	}
	for kind, want := range map[int]string{script.Flush: "flush", script.Checkpoint: "checkpoint", script.Mount: "mount", script.Dump: "dump", script.Check: "check", script.Ready: "ready", script.Uses: "uses"} {
		c := script.Cmd{Kind: kind, Pid: -1, N: -1, Call: fork, Keep: []bool{true}, Segs: row(21)}
		if s := c.Text(); s != want {
			t.Errorf("P26.1: the text of %v is %q, want %q", c, s, want)
		}
	}
	for want, c := range map[string]script.Cmd{
		"tick 7":          {Kind: script.Tick, Pid: -1, N: 7, Segs: []int{-1}},
		"arm 7":           {Kind: script.Arm, Pid: -1, N: 7, Keep: []bool{true}},
		"clean 7":         {Kind: script.Clean, Pid: -1, N: -1, Segs: []int{7}, Keep: []bool{true}},
		"crash 10":        {Kind: script.Crash, Pid: -1, N: -1, Segs: []int{7}, Keep: []bool{true, false}},
		"crash":           {Kind: script.Crash, Keep: []bool{}},
		"clean":           {Kind: script.Clean, Segs: []int{}},
		"1 close 5":       {Kind: script.Call, Pid: 1, Call: sys.Call{Op: sys.Close, A: 5, B: 6, S: "s", T: "t", Data: []byte("d")}},
		"issue 1 mkdir d": {Kind: script.Issue, Pid: 1, Call: sys.Call{Op: sys.Mkdir, S: "d", A: 6}},
	} {
		if s := c.Text(); s != want {
			t.Errorf("P26.1: the text of %v is %q, want %q", c, s, want)
		}
	}
}

// P26.1: what is no line of a command.
func TestParseRefuses(t *testing.T) {
	for _, s := range []string{
		"", " ", "\n", "?", "#", "# flush", "x", "call", "call 1 fork", "Flush", "FLUSH", "flus", "flushes", "flush ", " flush", "flush\n", "flush 1", "flush flush", "checkpoint ", "checkpoint 1",
		"1", "1 ", "1  fork", " 1 fork", "1 fork ", "1 fork\n", "1 fork 1", "1 open a", "1 Fork", "1 1", "1 step", "1 flush", "0 fork", "01 fork", "+1 fork", "-1 fork", "1000000 fork", "1x fork", "x fork", "fork", "fork 1", "1.0 fork", "99999999999999999999 fork", "١ fork", "1\tfork", "1 sleep 01", "1 close +1", "1 open a\x00 1",
		"issue", "issue ", "issue 1", "issue 1 ", "issue fork", "issue 0 fork", "issue 01 fork", "issue 1000000 fork", "issue 1  fork", "issue  1 fork", "issue 1 fork ", "issue 1 x", "issue issue 1 fork", "issue 1 1 fork", "issue -1 fork",
		"step", "step ", "step 0", "step 01", "step -1", "step +1", "step 1000000", "step 1 ", "step  1", "step 1 1", "step x", "step 1 fork",
		"tick", "tick ", "tick -1", "tick 00", "tick 01", "tick 1000000", "tick 1 ", "tick 1 2", "tick x", "tick -0", "tick 9223372036854775808", "tick 18446744073709551616", "tick 1_0", "tick 0x1",
		"arm", "arm ", "arm -1", "arm 007", "arm 1000000", "arm 1 1", "arm  1",
		"clean ", "clean  1", "clean 1 ", "clean 1  2", "clean 01", "clean -1", "clean 1000000", "clean 1 x", "clean 1 1000000", "clean 1 01", "clean" + strings.Repeat(" 1", 21), "clean" + strings.Repeat(" 1", 100000), "clean1",
		"crash ", "crash 2", "crash 1 0", "crash  1", "crash 1 ", "crash 1x", "crash x", "crash 1\x01", "crash1", "crash -1", "crash true",
		"mount 1", "mount ", "dump ", "dump 1", "check 0", "check ", "ready 1", "ready ", "uses 1", "uses ", "use",
		strings.Repeat(" ", 100000), "1 fork" + strings.Repeat(" ", 100000), "step 1" + strings.Repeat("0", 100000),
	} {
		if c, e := script.Parse(s); e != api.ErrForm || !same(c, script.Cmd{}) {
			t.Errorf("P26.1: Parse(%.40q) = %v, %v", s, c, e)
		}
	}
}

// shapes: all lines, by the document's words, but for what a call's text is.
var shapes = regexp.MustCompile(`(?s)^(?:(?:issue )?[1-9][0-9]{0,5} (.+)|step [1-9][0-9]{0,5}|(?:tick|arm) (?:0|[1-9][0-9]{0,5})|clean(?: (?:0|[1-9][0-9]{0,5})){0,20}|crash(?: [01]+)?|flush|checkpoint|mount|dump|check|ready|uses)$`)

// mayBe: is it a line of a command?
func mayBe(line string) bool {
	m := shapes.FindStringSubmatch(line)
	if m == nil {
		return false
	}
	_, e := sys.Parse(m[1])
	return m[1] == "" || e == api.OK
}

// someNumber: mostly one that may be.
func someNumber(r *rand.Rand) int {
	list := []int{0, 1, 9, 10, 99999, 100000, 999999, r.Intn(100), r.Intn(1000000)}
	if r.Intn(10) == 0 {
		list = []int{-1, 1000000, math.MinInt, math.MaxInt, int(r.Uint64())}
	}
	return list[r.Intn(len(list))]
}

// someCall: plain, and mostly one that may be.
func someCall(r *rand.Rand) sys.Call {
	some := func() string {
		b := make([]byte, r.Intn(5))
		for i := range b {
			b[i] = "aZ0 %\n#/"[r.Intn(8)]
		}
		return string(b)
	}
	return sys.Call{Op: r.Intn(30), A: r.Intn(2000) - 1000, B: someNumber(r), S: some(), T: some(), Data: []byte(some())}.Plain()
}

// someCmd: what its kind uses, and nothing else.
func someCmd(r *rand.Rand) script.Cmd {
	c := script.Cmd{Kind: 1 + r.Intn(14)}
	switch c.Kind {
	case script.Call, script.Issue:
		c.Pid, c.Call = someNumber(r), someCall(r)
	case script.Step:
		c.Pid = someNumber(r)
	case script.Tick, script.Arm:
		c.N = someNumber(r)
	case script.Clean:
		for range r.Intn(1 + r.Intn(23)) {
			c.Segs = append(c.Segs, someNumber(r))
		}
	case script.Crash:
		for range r.Intn(10) {
			c.Keep = append(c.Keep, r.Intn(2) == 0)
		}
	}
	return c
}

// spoiled: a line of which a byte is gone, another one, or one more.
func spoiled(r *rand.Rand, s string) string {
	const bytes = "00112%- .x#\n\x00\xff"
	i, c := r.Intn(len(s)), bytes[r.Intn(len(bytes))]
	switch r.Intn(3) {
	case 0:
		return s[:i] + s[i+1:]
	case 1:
		return s[:i] + string([]byte{c}) + s[i+1:]
	}
	return s[:i] + string([]byte{c}) + s[i:]
}

// P26.1: each undoes the other; any line, also one that is nearly one.
func TestTextAndBack(t *testing.T) {
	r := rand.New(rand.NewSource(261))
	texts, nones, read, refused := map[int]int{}, 0, 0, 0
	for range 40000 {
		c := someCmd(r)
		s := c.Text()
		if s == "" {
			nones++
			continue
		}
		texts[c.Kind]++
		if x, e := script.Parse(s); e != api.OK || !same(x, c) || !mayBe(s) {
			t.Fatalf("P26.1: Parse(%q) = %v, %v; want %v", s, x, e, c)
		}
		near := spoiled(r, s)
		x, e := script.Parse(near)
		if mayBe(near) != (e == api.OK) {
			t.Fatalf("P26.1: Parse(%q) = %v, %v", near, x, e)
		}
		if e == api.OK {
			read++
			if x.Text() != near {
				t.Fatalf("P26.1: Parse(%q) = %v, whose text is %q", near, x, x.Text())
			}
			continue
		}
		refused++
		if e != api.ErrForm || !same(x, script.Cmd{}) {
			t.Fatalf("P26.1: Parse(%q) = %v, %v", near, x, e)
		}
	}
	for kind := range 14 {
		if texts[kind+1] < 500 {
			t.Errorf("P26.1: %d texts of the kind %d: the test is in vain", texts[kind+1], kind+1)
		}
	}
	if nones < 500 || read < 500 || refused < 500 {
		t.Errorf("P26.1: %d without a text, %d read, %d refused: the test is in vain", nones, read, refused)
	}
}

// P26.1: lists that are handed in stay as they are, and those that are answered are nobody else's.
func TestMemory(t *testing.T) {
	segs, keep := append(make([]int, 0, 9), 3, 4), append(make([]bool, 0, 9), true, false)
	script.Join(script.Cmd{Kind: script.Clean, Segs: segs}, script.Cmd{Kind: script.Crash, Keep: keep})
	if !slices.Equal(segs[:9], []int{3, 4, 0, 0, 0, 0, 0, 0, 0}) || !slices.Equal(keep[:9], []bool{true, false, false, false, false, false, false, false, false}) {
		t.Errorf("P26.1: lists were changed: %v, %v", segs[:9], keep[:9])
	}
	for _, line := range []string{"clean 3 4", "crash 10", "1 write 0 ab"} {
		a, _ := script.Parse(line)
		for i := range a.Segs {
			a.Segs[i] = 9
		}
		for i := range a.Keep {
			a.Keep[i] = true
		}
		for i := range a.Call.Data {
			a.Call.Data[i] = 'x'
		}
		if b, e := script.Parse(line); e != api.OK || b.Text() != line {
			t.Errorf("P26.1: Parse(%q) once more = %v, %v", line, b, e)
		}
	}
}

// P26.2: a text's lines.
func TestLines(t *testing.T) {
	for s, want := range map[string][]string{
		"":                      nil,
		"\n":                    nil,
		"\n\n\n":                nil,
		"a":                     {"a"},
		"a\n":                   {"a"},
		"\na":                   {"a"},
		"a\n\nb":                {"a", "b"},
		"#a\nb\n\n c#":          {"b", " c#"},
		"#":                     nil,
		"#\n":                   nil,
		"##\n#a\n a#\n#":        {" a#"},
		" ":                     {" "},
		"a\r\nb\r\n":            {"a\r", "b\r"},
		"\r\n":                  {"\r"},
		"a b\tc\v\f":            {"a b\tc\v\f"},
		"a\u2028b\u0085c":       {"a\u2028b\u0085c"},
		"\x00\n\xff\xfe\n\n":    {"\x00", "\xff\xfe"},
		"1 fork\n1 fork\nx\n?":  {"1 fork", "1 fork", "x", "?"},
		strings.Repeat("\n", 9): nil,
	} {
		if list := script.Lines(s); !slices.Equal(list, want) || len(want) == 0 && list != nil {
			t.Errorf("P26.2: Lines(%q) = %q, want %q", s, list, want)
		}
	}
}

// P26.2: any text, byte by byte.
func TestLinesAny(t *testing.T) {
	r := rand.New(rand.NewSource(262))
	for range 20000 {
		b := make([]byte, r.Intn(30))
		for i := range b {
			b[i] = "\n\n#a \r"[r.Intn(6)]
		}
		var want []string
		line := ""
		for _, c := range append(slices.Clone(b), '\n') {
			if c != '\n' {
				line += string(c)
				continue
			}
			if line != "" && line[0] != '#' {
				want = append(want, line)
			}
			line = ""
		}
		if list := script.Lines(string(b)); !slices.Equal(list, want) {
			t.Fatalf("P26.2: Lines(%q) = %q, want %q", b, list, want)
		}
	}
}

// P26.2: the lines of commands.
func TestJoin(t *testing.T) {
	flush, none := script.Cmd{Kind: script.Flush}, script.Cmd{Kind: script.Step}
	for _, x := range []struct {
		list []script.Cmd
		want string
	}{
		{nil, ""},
		{[]script.Cmd{}, ""},
		{[]script.Cmd{flush}, "flush\n"},
		{[]script.Cmd{none}, "?\n"},
		{[]script.Cmd{{}, none, {Kind: 15}}, "?\n?\n?\n"},
		{[]script.Cmd{none, flush, none, flush, flush}, "?\nflush\n?\nflush\nflush\n"},
		{[]script.Cmd{{Kind: script.Call, Pid: 1, Call: sys.Call{Op: sys.Write, Data: []byte("#\n")}}, {Kind: script.Crash, Keep: []bool{true, false}}}, "1 write 0 %23%0A\ncrash 10\n"},
	} {
		if s := script.Join(x.list...); s != x.want {
			t.Errorf("P26.2: Join(%v) = %q, want %q", x.list, s, x.want)
		}
	}
}

// P26.2: the lines of what was joined are the commands' texts, one for each.
func TestJoinAndLines(t *testing.T) {
	r := rand.New(rand.NewSource(263))
	for range 2000 {
		var list []script.Cmd
		var want []string
		for range r.Intn(8) {
			c := someCmd(r)
			list = append(list, c)
			if s := c.Text(); s != "" {
				want = append(want, s)
			} else {
				want = append(want, "?")
			}
		}
		if lines := script.Lines(script.Join(list...)); !slices.Equal(lines, want) {
			t.Fatalf("P26.2: the lines of %v are %q, want %q", list, lines, want)
		}
	}
}

// P1: any values, any text.
func TestAny(t *testing.T) {
	list := []int{math.MinInt, -1, 0, 1, 2, 7, 14, 15, 20, 21, 999999, 1000000, math.MaxInt}
	for kind := -2; kind < 18; kind++ {
		for _, n := range list {
			c := script.Cmd{Kind: kind, Pid: n, N: n, Call: sys.Call{Op: n, A: n, B: n, S: "\xff", T: "", Data: []byte{0}}, Keep: make([]bool, max(0, n%100)), Segs: []int{n, n}}
			if s := c.Text(); s != "" && !mayBe(s) {
				t.Fatalf("P1: the text of %v is %q", c, s)
			}
			script.Join(c, c)
		}
	}
	for _, s := range []string{"\x00", "\xff", strings.Repeat("\n", 70000), strings.Repeat("#\n", 70000), strings.Repeat("1 ", 70000), "crash " + strings.Repeat("2", 70000), strconv.Itoa(math.MinInt)} {
		script.Parse(s)
		script.Lines(s)
	}
}
