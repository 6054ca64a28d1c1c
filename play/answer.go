package play

import (
	"strconv"
	"strings"

	"drumlin/api"
	"drumlin/fs"
	"drumlin/kern"
	"drumlin/script"
	"drumlin/sys"
	"drumlin/trace"
	"drumlin/tree"
)

// words: a line of them.
func words(list ...string) string {
	return strings.Join(list, " ")
}

// numbered: a line of a word, and numbers behind it.
func numbered(word string, numbers ...int) string {
	list := []string{word}
	for _, n := range numbers {
		list = append(list, strconv.Itoa(n))
	}
	return words(list...)
}

// failed: of an error.
func failed(e api.Errno) string {
	return numbered("error", int(e))
}

// done: of what tells nothing but its error.
func done(e api.Errno) string {
	if e != api.OK {
		return failed(e)
	}
	return "ok"
}

// answer: what a command for a kernel comes to, as lines.
func answer(k *kern.Kernel, c script.Cmd) []string {
	if c.Kind == script.Dump {
		return dumped(k.Tree())
	}
	return []string{line(k, c)}
}

// line: of a command that comes to just one.
func line(k *kern.Kernel, c script.Cmd) string {
	v := k.Tree().Vol()
	switch c.Kind {
	case script.Call:
		return called(k, c.Pid, c.Call)
	case script.Issue:
		return issued(k, c.Pid, c.Call)
	case script.Step:
		return stepped(k, c.Pid)
	case script.Tick:
		woken := k.Tick(c.N)
		return numbered("tick", append([]int{k.Procs().Now()}, woken...)...)
	case script.Flush:
		return done(v.Flush())
	case script.Checkpoint:
		return done(v.Checkpoint())
	case script.Clean:
		_, e := v.Clean(c.Segs...)
		return done(e)
	case script.Check:
		return checked(k.Tree())
	case script.Ready:
		return numbered("ready", k.Ready()...)
	}
	return trace.Uses(v.Uses(), v.Geom().Cap())
}

// called: a call is pending, and has its first step.
func called(k *kern.Kernel, pid int, c sys.Call) string {
	if e := k.Issue(pid, c); e != api.OK {
		return words(strconv.Itoa(pid), failed(e))
	}
	return stepped(k, pid)
}

// issued: a call is pending.
func issued(k *kern.Kernel, pid int, c sys.Call) string {
	if e := k.Issue(pid, c); e != api.OK {
		return words(numbered("issue", pid), failed(e))
	}
	return numbered("issued", pid)
}

// stepped: a process has its turn. Which call was pending is asked ahead of it: behind it none may be.
func stepped(k *kern.Kernel, pid int) string {
	c, _ := k.Pending(pid)
	v, e := k.Step(pid)
	if e != api.OK {
		return words(numbered("step", pid), failed(e))
	}
	return trace.Event(v, c)
}

// dumped: a line of how many items there are, and one of each.
func dumped(t *tree.Tree) []string {
	items, e := fs.Dump(t)
	if e != api.OK {
		return []string{failed(e)}
	}
	list := []string{numbered("dump", len(items))}
	return append(list, script.Lines(trace.Items(items))...)
}

// checked: how many faults there are, and what is wrong with which number.
func checked(t *tree.Tree) string {
	faults := fs.Check(t)
	numbers := []int{len(faults)}
	for _, f := range faults {
		numbers = append(numbers, f.Num, f.What)
	}
	return numbered("check", numbers...)
}
