package play_test

import (
	"slices"
	"strings"
	"testing"

	"drumlin/api"
	"drumlin/play"
)

// P27.1 (and P1): whatever a line is, and whatever was done to the disk, the volume, the processes and the files besides, it comes to lines, and ends.
func TestAny(t *testing.T) {
	met := each(t, 60, func(t *testing.T, w *walk) {
		w.pretend()
		for range 25 {
			for range w.r.Intn(40) {
				got := w.real.Do(w.anyLine())
				w.met[strings.Join(strings.Fields(got[0])[:1], "")]++
				if w.r.Intn(6) == 0 && w.real.Up() {
					w.meddle()
				}
			}
			if w.r.Intn(2) == 0 {
				w.spoil()
			}
			if w.r.Intn(2) == 0 {
				w.real.Do(w.keep())
				w.met["mount "+w.real.Do("mount")[0]]++
			}
			if w.real.Up() { // what was spoilt may be read now
				for _, line := range []string{"dump", "check", "uses", "ready", "1 sync", "checkpoint", "clean"} {
					if got := w.real.Do(line); len(got) == 0 || got[0] == "" {
						t.Fatalf("P27.1: %q came to %q", line, got)
					}
				}
			}
		}
	})
	for _, what := range []string{"mount mounted", "mount error 21", "?", "down", "died", "error", "dump", "check"} {
		if met[what] == 0 {
			t.Errorf("P27.1: never came to %q: the test is in vain", what)
		}
	}
}

// pretend: lines are made as if so many processes were there, with all fds, which may be so.
func (w *walk) pretend() {
	for pid := range 6 {
		p := &process{pid: pid + 1, home: 1}
		for i := range p.fds {
			p.fds[i] = &opened{kind: 'f', num: 1}
		}
		w.m.procs[p.pid] = p
	}
}

// anyLine: one that a walk would take, or such a one with some bytes changed.
func (w *walk) anyLine() string {
	line := w.line()
	switch w.r.Intn(12) {
	case 0:
		line = one(w.r, "mount", "crash", "arm 3", "arm 0", w.keep())
	case 1:
		b := []byte(line)
		for range 1 + w.r.Intn(3) {
			b[w.r.Intn(len(b))] = one(w.r, byte(w.r.Intn(256)), ' ', '0', '%', '-', '\n')
		}
		return string(b)
	case 2:
		b := make([]byte, w.r.Intn(20))
		w.r.Read(b)
		return string(b)
	}
	return line
}

// meddle: what lines do not do is done to what a machine is made of.
func (w *walk) meddle() {
	r, k := w.r, w.real.Kernel()
	v := k.Tree().Vol()
	num := r.Intn(w.g.Inodes + 2)
	b := make([]byte, r.Intn(200))
	r.Read(b)
	switch r.Intn(14) {
	case 0:
		v.Write(num, r.Intn(300), b)
	case 1:
		v.Write(num, 32*r.Intn(8), []byte{byte(r.Intn(9)), 0, byte(r.Intn(4)), 'a', 'b'})
	case 2:
		v.Truncate(num, r.Intn(500))
	case 3:
		v.Delete(num)
	case 4:
		v.Link(num, r.Intn(5)-2)
	case 5:
		v.New(one(r, api.File, api.Dir))
	case 6:
		v.SetTime(r.Uint32())
	case 7:
		k.Procs().Fork(r.Intn(9))
	case 8:
		k.Procs().Exit(r.Intn(9), 3)
	case 9:
		k.Tree().Drop(num)
	case 10:
		k.Files().Close(r.Intn(16))
	case 11:
		k.Files().Open(1+r.Intn(3), 1+r.Intn(9), 1+r.Intn(7))
	case 12:
		k.Pipes().Add(1+r.Intn(3), r.Intn(3)-1, r.Intn(3)-1)
	case 13:
		k.Procs().Sleep(r.Intn(9), 3)
	}
}

// spoil: sectors of the disk are others.
func (w *walk) spoil() {
	d := w.real.Disk()
	for range 1 + w.r.Intn(3) {
		at := w.r.Intn(d.Size())
		s, _ := d.Read(w.r.Intn(d.Size()))
		if w.r.Intn(2) == 0 {
			s[w.r.Intn(len(s))] ^= 1 << w.r.Intn(8)
		}
		d.Write(at, s)
	}
	if w.r.Intn(2) == 0 {
		d.Flush()
	}
}

// P27.2, P27.3: what the lines of a walk come to, and what those that look and flush add to it.
func TestRuns(t *testing.T) {
	quiet := func(line string) bool {
		word, _, _ := strings.Cut(line, " ")
		return slices.Contains([]string{"flush", "checkpoint", "clean", "ready", "uses", "check", "dump"}, word)
	}
	each(t, 30, func(t *testing.T, w *walk) {
		var all, plain []string
		for range 200 {
			line := w.line()
			w.do(t, line)
			all = append(all, line)
			if !quiet(line) {
				plain = append(plain, line)
			}
		}
		want := play.Run(w.g, strings.Join(plain, "\n"))
		for _, often := range []int{0, 1, 3} {
			others := slices.Clone(all)
			if often > 0 {
				others = nil
				for _, line := range plain {
					others = append(others, line)
					for range w.r.Intn(often + 1) {
						others = append(others, one(w.r, "flush", "checkpoint", "clean", w.flush(), "ready", "uses", "check", "dump"))
					}
				}
			}
			w.quiet(t, others, quiet, want)
		}
		w.beginnings(t, all)
	})
}

// quiet: lines of which some change nothing of what the others come to.
func (w *walk) quiet(t *testing.T, list []string, quiet func(string) bool, want []string) {
	t.Helper()
	m, e := play.New(w.g)
	if e != api.OK {
		t.Fatalf("P27.1: New(%v) = %v", w.g, e)
	}
	var got []string
	for _, line := range list {
		if lines := m.Do(line); !quiet(line) {
			got = append(got, lines...)
		} else if strings.HasPrefix(lines[0], "error") && !strings.HasPrefix(line, "clean ") {
			t.Fatalf("P27.3: %q came to %q", line, lines)
		}
	}
	if got = append(got, "end"); !slices.Equal(got, want) {
		t.Fatalf("P27.3: of %v, %q came to %q; want %q", w.g, list, got, want)
	}
}

// beginnings: what a text's come to is the beginning of what it comes to.
func (w *walk) beginnings(t *testing.T, list []string) {
	t.Helper()
	list = slices.Insert(slices.Clone(list), 100, "# what is behind this line is done, too", "", "sync", "1 sync ", "arm 20")
	all := play.Run(w.g, strings.Join(list, "\n")+"\n")
	was := 0
	for _, n := range []int{0, 1, 2, 50, 99, 100, 101, 102, 103, 104, 105, 106, 150, len(list)} {
		for _, end := range []string{"", "\n", "\n\n#\n"} {
			part := play.Run(w.g, strings.Join(list[:n], "\n")+end)
			last := len(part) - 1
			if part[last] != "end" || last < was || last >= len(all) || !slices.Equal(part[:last], all[:last]) {
				t.Fatalf("P27.2: of %v, the first %d lines of %q came to %q", w.g, n, list, part)
			}
			was = last
		}
	}
	if was != len(all)-1 {
		t.Errorf("P27.2: all lines came to %d, and %d", was, len(all)-1)
	}
	m := drive(t, w.g)
	var done []string
	for _, line := range list {
		if line != "" && line[0] != '#' {
			done = append(done, m.Do(line)...)
		}
	}
	if done = append(done, "end"); !slices.Equal(done, all) {
		t.Errorf("P27.1: of %v, Do comes to %q, Run to %q", w.g, done, all)
	}
}
