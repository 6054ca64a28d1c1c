package trace_test

import (
	"math"
	"math/rand"
	"regexp"
	"strconv"
	"strings"
	"testing"

	"drumlin/api"
	"drumlin/kern"
	"drumlin/sys"
	"drumlin/trace"
)

// same: are they alike, none and an empty list being the same?
func same(a, b trace.Step) bool {
	x, y := a.Call, b.Call
	return a.Pid == b.Pid && a.What == b.What && a.Answer == b.Answer && x.Op == y.Op && x.A == y.A && x.B == y.B && x.S == y.S && x.T == y.T && string(x.Data) == string(y.Data)
}

// P25.1: steps as lines, and back.
func TestEvent(t *testing.T) {
	open := sys.Call{Op: sys.Open, S: "a", A: 1}
	write := sys.Call{Op: sys.Write, A: 3, Data: []byte(" : ok\n")}
	done := func(a sys.Answer) kern.Event { return kern.Event{Pid: 1, What: kern.Done, Answer: a} }
	for _, x := range []struct {
		event kern.Event
		call  sys.Call
		want  string
		step  trace.Step
	}{
		{done(sys.Answer{N: 3}), open, "1 open a 1 : ok 3", trace.Step{Pid: 1, What: 1, Call: open, Answer: "ok 3"}},
		{done(sys.Answer{}), open, "1 open a 1 : ok", trace.Step{Pid: 1, What: 1, Call: open, Answer: "ok"}},
		{done(sys.Answer{Err: api.ErrNoent}), open, "1 open a 1 : error 4", trace.Step{Pid: 1, What: 1, Call: open, Answer: "error 4"}},
		{done(sys.Answer{N: 3, M: -1, Data: []byte(" : ")}), write, "1 write 3 %20%3A%20ok%0A : ok 3 -1 %20%3A%20", trace.Step{Pid: 1, What: 1, Call: write, Answer: "ok 3 -1 %20%3A%20"}},
		{done(sys.Answer{Err: -5, Data: []byte("x")}), sys.Call{Op: sys.Fork}, "1 fork : error -5 0 0 x", trace.Step{Pid: 1, What: 1, Call: sys.Call{Op: sys.Fork}, Answer: "error -5 0 0 x"}},
		{kern.Event{Pid: 2, What: kern.Blocked}, open, "2 open a 1 blocked", trace.Step{Pid: 2, What: 2, Call: open}},
		{kern.Event{Pid: 2, What: kern.Blocked, Answer: sys.Answer{N: 3}}, write, "2 write 3 %20%3A%20ok%0A blocked", trace.Step{Pid: 2, What: 2, Call: write}},
		{kern.Event{Pid: 2, What: kern.Blocked}, sys.Call{Op: sys.Unlink, S: "blocked"}, "2 unlink blocked blocked", trace.Step{Pid: 2, What: 2, Call: sys.Call{Op: sys.Unlink, S: "blocked"}}},
		{kern.Event{Pid: 3, What: kern.Ended}, open, "3 ended", trace.Step{Pid: 3, What: 3}},
		{kern.Event{Pid: 3, What: kern.Ended, Answer: sys.Answer{N: 3}}, sys.Call{}, "3 ended", trace.Step{Pid: 3, What: 3}},
		{kern.Event{Pid: 4}, open, "4 idle", trace.Step{Pid: 4}},
		{kern.Event{Pid: math.MaxInt}, sys.Call{}, "9223372036854775807 idle", trace.Step{Pid: math.MaxInt}},
		{kern.Event{Pid: 10, What: 4, Answer: sys.Answer{N: 3}}, open, "10 idle", trace.Step{Pid: 10}},
		{kern.Event{Pid: 10, What: -1}, open, "10 idle", trace.Step{Pid: 10}},
		{kern.Event{Pid: 10, What: math.MaxInt}, open, "10 idle", trace.Step{Pid: 10}},
		{kern.Event{Pid: 10, What: math.MinInt}, open, "10 idle", trace.Step{Pid: 10}},
	} {
		if s := trace.Event(x.event, x.call); s != x.want {
			t.Errorf("P25.1: of %v, %v: %q, want %q", x.event, x.call, s, x.want)
		}
		if step, e := trace.Parse(x.want); e != api.OK || !same(step, x.step) {
			t.Errorf("P25.1: Parse(%q) = %v, %v; want %v", x.want, step, e, x.step)
		}
	}
}

// P25.1: what a call hasn't isn't told; of a Pid that none has, and of a call that is none, there is a line, which isn't read.
func TestEventOfNone(t *testing.T) {
	full := sys.Call{Op: sys.Close, A: 5, B: 6, S: "s", T: "t", Data: []byte("d")}
	if s := trace.Event(kern.Event{Pid: 1, What: kern.Blocked}, full); s != "1 close 5 blocked" {
		t.Errorf("P25.1: of a call that has more: %q", s)
	}
	for _, x := range []struct {
		event kern.Event
		call  sys.Call
		want  string
	}{
		{kern.Event{}, full, "0 idle"},
		{kern.Event{Pid: -1, What: kern.Ended}, full, "-1 ended"},
		{kern.Event{Pid: math.MinInt, What: kern.Blocked}, full, "-9223372036854775808 close 5 blocked"},
		{kern.Event{Pid: 0, What: kern.Done}, full, "0 close 5 : ok"},
		{kern.Event{Pid: 1, What: kern.Blocked}, sys.Call{}, "1  blocked"},
		{kern.Event{Pid: 1, What: kern.Done, Answer: sys.Answer{N: 1}}, sys.Call{Op: 30, S: "s"}, "1  : ok 1"},
	} {
		if s := trace.Event(x.event, x.call); s != x.want {
			t.Errorf("P25.1: of %v, %v: %q, want %q", x.event, x.call, s, x.want)
		}
		if step, e := trace.Parse(x.want); e != api.ErrForm || !same(step, trace.Step{}) {
			t.Errorf("P25.1: Parse(%q) = %v, %v", x.want, step, e)
		}
	}
}

// P25.1: answers that no answer has as its text, but that look like one.
func TestParseAnswers(t *testing.T) {
	for _, answer := range []string{"ok", "ok ", "ok 3", "ok  3", "ok x\ny", "ok blocked", "ok :", "ok : ", "ok :ok", "ok 1: 2", "ok ok error", "error ", "error 4", "error x", "error  ", "error ok", "error : ", "error idle", "ok \x00\xff"} {
		step, e := trace.Parse("7 fork : " + answer)
		if strings.Contains(answer, " : ") {
			if e != api.ErrForm || !same(step, trace.Step{}) {
				t.Errorf("P25.1: Parse of the answer %q = %v, %v", answer, step, e)
			}
		} else if want := (trace.Step{Pid: 7, What: kern.Done, Call: sys.Call{Op: sys.Fork}, Answer: answer}); e != api.OK || !same(step, want) {
			t.Errorf("P25.1: Parse of the answer %q = %v, %v", answer, step, e)
		}
	}
}

// P25.1: what is no such line.
func TestParseRefuses(t *testing.T) {
	for _, s := range []string{
		"", " ", "1", "1 ", "idle", " idle", "1idle", "1  idle", "1 idle ", " 1 idle", "1 idle\n", "1 Idle", "1 idle : ok", "1 idle blocked", "1 blocked", "1 done", "1\tidle", "x idle", "ended 1",
		"0 idle", "00 idle", "01 idle", "-1 idle", "+1 idle", "1x idle", "1.0 ended", "9223372036854775808 idle", "99999999999999999999 ended", "18446744073709551617 idle", "١ idle", "1_0 idle", "0x1 idle", "% idle",
		"1 ended ", "1 ended : ok", "1 ende", "1 ended ended", "1 ended 137",
		"1 fork", "1 fork ", "1 fork blocked ", "1 fork  blocked", "1  fork blocked", "1 fork blocke", "1 forkblocked", "1 fork blocked : ok", "1 fork Blocked", "1 fork 1 blocked", "1 open a blocked", "1 open a 01 blocked", "1 blocked blocked", "1  blocked", "1 fork\tblocked",
		"1 fork :", "1 fork : ", "1 fork :ok", "1 fork: ok", "1 fork  : ok", "1 fork :  ok", "1 fork : no", "1 fork : okay", "1 fork : ok: ", "1 fork : OK", "1 fork : error", "1 fork : errors 1", "1 fork : erro 1", "1 fork : idle", "1 fork : blocked", "1 fork : ok\n", "1 fork : ok\t1",
		"1 fork : ok : ok", "1 fork : : ok", "1 fork : ok : ", "1 fork : ok  : ", "1 fork : ok  :  ", "1 fork : error 1 : ok", "1 fork : ok 3 : x : y", "1  : ok", "1 : ok", "1 : ok : ok", "1 open a : ok", "1 open a 1 1 : ok", "1 for : ok", "1 fork 1 : ok", "1 open %61 1 : ok",
		strings.Repeat(" : ", 50000), "1 fork" + strings.Repeat(" : ok", 50000), "1 fork" + strings.Repeat(" blocked", 50000), strings.Repeat("1", 50000) + " idle",
	} {
		if step, e := trace.Parse(s); e != api.ErrForm || !same(step, trace.Step{}) {
			t.Errorf("P25.1: Parse(%.40q) = %v, %v", s, step, e)
		}
	}
}

// lines are all such lines by the document's words, but for what a call's text is, and that there is no other " : ".
var lines = regexp.MustCompile(`(?s)^([1-9][0-9]*) (?:idle|ended|(.+) blocked|(.+?) : (ok|ok .*|error .*))$`)

// mayBe: is it such a line?
func mayBe(s string) bool {
	m := lines.FindStringSubmatch(s)
	if m == nil || strings.Contains(m[4], " : ") {
		return false
	}
	_, e := sys.Parse(m[2] + m[3])
	_, err := strconv.Atoi(m[1])
	return err == nil && (m[2]+m[3] == "" || e == api.OK)
}

// some: bytes, mostly few.
func some(r *rand.Rand) []byte {
	b := make([]byte, r.Intn(1+r.Intn(6)))
	for i := range b {
		b[i] = "aZ0 :%\n\x00"[r.Intn(8)]
	}
	return b
}

// spoiled: a line of which a byte is gone, another one, or one more; or some text at some place.
func spoiled(r *rand.Rand, s string) string {
	more := []string{"0", "1", " ", ":", " : ", "ok", "error ", " blocked", "idle", "\n", "%", "x", "f /a %\n", "l"}[r.Intn(14)]
	i := r.Intn(len(s))
	switch r.Intn(3) {
	case 0:
		return s[:i] + s[i+1:]
	case 1:
		return s[:i] + more[:1] + s[i+1:]
	}
	return s[:i] + more + s[i:]
}

// P25.1: each undoes the other; any text, also one that is nearly such a line.
func TestEventAndBack(t *testing.T) {
	r := rand.New(rand.NewSource(251))
	whats, read, refused := map[int]int{}, 0, 0
	for range 40000 {
		call := sys.Call{Op: 1 + r.Intn(29), A: r.Intn(300) - 100, B: int(r.Uint64()), S: string(some(r)), T: string(some(r)), Data: some(r)}.Plain()
		v := kern.Event{Pid: 1 + r.Intn(1+r.Intn(1000000)), What: r.Intn(4)}
		want := trace.Step{Pid: v.Pid, What: v.What}
		if v.What == kern.Done || v.What == kern.Blocked {
			want.Call = call
		}
		if v.What == kern.Done {
			v.Answer = sys.Answer{Err: api.Errno(r.Intn(23) * r.Intn(2)), N: r.Intn(5) - 2, M: r.Intn(3), Data: some(r)}
			want.Answer = v.Answer.Text()
		}
		whats[v.What]++
		s := trace.Event(v, call)
		if x, e := trace.Parse(s); e != api.OK || !same(x, want) || !mayBe(s) {
			t.Fatalf("P25.1: Parse(%q) = %v, %v; want %v", s, x, e, want)
		}
		near := spoiled(r, s)
		x, e := trace.Parse(near)
		if mayBe(near) != (e == api.OK) {
			t.Fatalf("P25.1: Parse(%q) = %v, %v", near, x, e)
		}
		if e == api.OK {
			read++
			if told(x) != near {
				t.Fatalf("P25.1: Parse(%q) = %v", near, x)
			}
			continue
		}
		refused++
		if e != api.ErrForm || !same(x, trace.Step{}) {
			t.Fatalf("P25.1: Parse(%q) = %v, %v", near, x, e)
		}
	}
	if len(whats) != 4 || read < 500 || refused < 500 {
		t.Errorf("P25.1: %v, %d read, %d refused: the test is in vain", whats, read, refused)
	}
}

// told: the line of a step, by the document's words.
func told(x trace.Step) string {
	s := strconv.Itoa(x.Pid) + " "
	switch x.What {
	case kern.Idle:
		return s + "idle"
	case kern.Ended:
		return s + "ended"
	case kern.Blocked:
		return s + x.Call.Text() + " blocked"
	}
	return s + x.Call.Text() + " : " + x.Answer
}

// P1: any values, any text.
func TestAny(t *testing.T) {
	list := []int{math.MinInt, -1, 0, 1, 2, 3, 4, 29, 30, math.MaxInt}
	for _, n := range list {
		for _, m := range list {
			trace.Event(kern.Event{Pid: n, What: m, Answer: sys.Answer{Err: api.Errno(n), N: m, M: n, Data: []byte{0}}}, sys.Call{Op: m, A: n, B: m, S: "\xff", T: " : ", Data: []byte{0}})
			trace.Stat(sys.Answer{Err: api.Errno(n), N: m, M: n, Data: make([]byte, m&15)})
			trace.List(sys.Answer{Err: api.Errno(n), N: m, M: n, Data: make([]byte, n&15)})
		}
	}
	for _, s := range []string{"\x00", "\xff", "%", strings.Repeat("\n", 70000), strings.Repeat("1 ", 70000), strings.Repeat("d ", 70000), strings.Repeat("d /\n", 70000) + "d", strconv.Itoa(math.MinInt)} {
		trace.Parse(s)
		trace.ParseItems(s)
	}
}
