package play_test

import (
	"fmt"
	"slices"
	"strings"
	"testing"

	"drumlin/api"
	"drumlin/geom"
	"drumlin/play"
)

// keep: the word of a crash, of so many writes or of more, or of fewer.
func (w *walk) keep() string {
	few := w.r.Intn(4)
	b := make([]byte, max(0, len(w.real.Disk().Queue())+w.r.Intn(5)-2))
	for i := range b {
		b[i] = '0'
		if w.r.Intn(3) < few {
			b[i] = '1'
		}
	}
	return strings.TrimSuffix("crash "+string(b), " ")
}

// down: a machine is brought up again, with what may be said to it meanwhile.
func (w *walk) down(t *testing.T) {
	t.Helper()
	for range w.r.Intn(4) {
		w.do(t, one(w.r, "mount", "1 getpid", "step 1", "tick 5", "flush", "clean 99", "dump", "check", "ready", "uses", "arm 0", "issue 1 sync"))
		if w.m.up {
			return
		}
	}
	w.do(t, w.keep())
	if w.r.Intn(3) == 0 { // nothing is written by a mount, so that it doesn't matter
		w.do(t, "arm 0")
	}
	w.do(t, "mount")
}

// P27.4 (and P3): wherever the disk dies, and whatever is kept, a machine is mounted, and its tree is as it was last flushed, or was to be; and so on, crash behind crash.
func TestCrashes(t *testing.T) {
	met := each(t, 60, func(t *testing.T, w *walk) {
		for range 40 {
			for range w.r.Intn(30) {
				if !w.m.up {
					break
				}
				w.do(t, w.line())
			}
			switch w.r.Intn(4) {
			case 0:
				w.do(t, fmt.Sprint("arm ", w.r.Intn(1+w.r.Intn(60))))
				for n := 0; n < 40 && w.m.up; n++ {
					w.do(t, one(w.r, w.line(), w.flush(), "1 sync"))
				}
			case 1:
				w.do(t, fmt.Sprint("arm ", w.r.Intn(20)))
				w.do(t, w.flush())
			default:
				w.do(t, "arm 999999") // so that what was armed ahead of it kills nobody
			}
			w.look(t)
			w.down(t)
			w.look(t)
		}
	})
	for _, what := range []string{"died of flush", "died of checkpoint", "died of clean", "died of sync", "died of fsync", "mounted 1 of 1", "mounted 1 of 2", "mounted 2 of 2"} {
		if met[what] < 5 {
			t.Errorf("P27.4: %q came up %d times: the test is in vain", what, met[what])
		}
	}
}

// lines of a text, told with a blank line less.
func lines(s string) []string { return strings.Split(strings.TrimSpace(s), "\n") }

// drive: a new machine; all lines must come to something that is no "?".
func drive(t *testing.T, g geom.Geom, list ...string) *play.Machine {
	t.Helper()
	m, e := play.New(g)
	if e != api.OK {
		t.Fatalf("P27.1: New(%v) = %v", g, e)
	}
	for _, line := range list {
		if got := m.Do(line); len(got) == 0 || got[0] == "?" {
			t.Fatalf("P27.1: %q came to %q", line, got)
		}
	}
	return m
}

// state of a machine: what of its tree is to be seen by lines.
func state(t *testing.T, m *play.Machine) []string {
	t.Helper()
	if got := m.Do("check"); !slices.Equal(got, []string{"check 0"}) {
		t.Errorf("P27.4: %q", got)
	}
	return m.Do("dump")
}

// P27.4: one flush, checkpoint, cleaning or sync, killed at each of its deeds, with each choice of what is kept, if they are few.
func TestEachDeed(t *testing.T) {
	before := lines(`
1 mkdir a
1 open a/f 11
1 write 0 ` + strings.Repeat("x", 1300) + `
1 open b 11
1 sync
clean
1 write 1 gone
1 truncate 0 1000
1 unlink b
1 open a/c 11
1 write 2 new
1 rename a/f /g
1 mkdir d
`)
	g := geom.Geom{Segs: 20, Groups: 2, Inodes: 20}
	met := [2]int{}
	for _, last := range []string{"1 sync", "1 fsync 1", "flush", "checkpoint", "clean", "clean 0 1 2"} {
		old := []string{"dump 3", "d /a", "f /a/f " + strings.Repeat("x", 1300), "f /b %"}
		now := []string{"dump 4", "d /a", "f /a/c new", "d /d", "f /g " + strings.Repeat("x", 1000)}
		for deed := 0; ; deed++ {
			m := drive(t, g, before...)
			m.Do(fmt.Sprint("arm ", deed))
			if got := m.Do(last); !slices.Equal(got, []string{"died"}) {
				if deed == 0 || m.Disk().Dead() {
					t.Errorf("P27.4: %q, armed with %d, came to %q", last, deed, got)
				}
				break
			}
			for _, keep := range keeps(len(m.Disk().Queue())) {
				m := drive(t, g, before...)
				drive := []string{fmt.Sprint("arm ", deed), last, "crash " + keep, "mount"}
				want := []string{"armed", "died", "crashed", "mounted"}
				for i, line := range drive {
					if got := m.Do(strings.TrimSpace(line)); !slices.Equal(got, want[i:i+1]) {
						t.Fatalf("P27.4: of %q, %q came to %q", drive, line, got)
					}
				}
				switch got := state(t, m); {
				case slices.Equal(got, old):
					met[0]++
				case slices.Equal(got, now):
					met[1]++
				default:
					t.Fatalf("P27.4: %q came to %q", drive, got)
				}
			}
		}
	}
	if met[0] < 50 || met[1] < 50 {
		t.Errorf("P27.4: %v: the test is in vain", met)
	}
}

// keeps: each choice of so many writes, or some of them, if they are many.
func keeps(n int) []string {
	var list []string
	step := 1
	if n > 4 {
		step = 1<<n/13 | 1 // an odd one, so that each bit is met both ways
	}
	for bits := 0; bits < 1<<n; bits += step {
		list = append(list, fmt.Sprintf("%0*b", n, bits)[:n])
	}
	if n == 0 {
		return []string{""}
	}
	return append(list, strings.Repeat("1", n))
}
