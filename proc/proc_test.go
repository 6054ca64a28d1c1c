package proc_test

import (
	"math"
	"math/rand"
	"slices"
	"testing"

	"drumlin/api"
	"drumlin/proc"
)

// P22.1: the numbers of states.
func TestStates(t *testing.T) {
	if proc.None != 0 || proc.Ready != 1 || proc.Asleep != 2 || proc.Zombie != 3 {
		t.Errorf("P22.1: %d, %d, %d, %d", proc.None, proc.Ready, proc.Asleep, proc.Zombie)
	}
}

// P22.1: the document's example.
func TestExample(t *testing.T) {
	p := proc.New(5)
	a, _ := p.Fork(1)
	b, _ := p.Fork(2)
	if e := p.Exit(3, 7); a != 2 || b != 3 || e != api.OK {
		t.Errorf("P22.1: Fork = %d, %d; Exit = %v", a, b, e)
	}
	if pid, code, e := p.Wait(2); pid != 3 || code != 7 || e != api.OK {
		t.Errorf("P22.1: Wait = %d, %d, %v", pid, code, e)
	}
	if pid, code, e := p.Wait(2); pid != 0 || code != 0 || e != api.ErrChild {
		t.Errorf("P22.1: Wait = %d, %d, %v", pid, code, e)
	}
}

// P22.1: what is there at first.
func TestNew(t *testing.T) {
	p := proc.New(3)
	one, e := p.Get(1)
	if one != (proc.Proc{Pid: 1, State: proc.Ready}) || e != api.OK || p.Now() != 0 || !slices.Equal(p.Pids(), []int{1}) || p.Children(1) != nil {
		t.Errorf("P22.1: %+v, %v; Now = %d, Pids = %v, Children = %v", one, e, p.Now(), p.Pids(), p.Children(1))
	}
}

// P22.1, P22.3: as many as most, which is brought among 1 and 16; a Zombie is one of them.
func TestMost(t *testing.T) {
	for _, most := range append(edges, 5, 10) {
		b := start(t, most)
		n := nearest(most, 16)
		for want := 2; want <= n; want++ {
			if pid, e := b.fork(want - 1); pid != want || e != api.OK {
				t.Fatalf("P22.3: New(%d): Fork = %d, %v", most, pid, e)
			}
		}
		b.same()
		if pid, e := b.fork(1); pid != 0 || e != api.ErrAgain {
			t.Errorf("P22.3: New(%d): Fork of one more = %d, %v", most, pid, e)
		}
		if pid, e := b.fork(n + 1); pid != 0 || e != api.ErrSrch {
			t.Errorf("P22.1: New(%d): Fork of one that there isn't = %d, %v", most, pid, e)
		}
		b.same()
		if n < 3 {
			continue
		}
		b.exit(n, 1)
		if _, e := b.fork(1); e != api.ErrAgain {
			t.Errorf("P22.3: New(%d): Fork beside a Zombie = %v", most, e)
		}
		b.wait(n - 1)
		if pid, e := b.fork(1); pid != n+1 || e != api.OK {
			t.Errorf("P22.2: New(%d): Fork behind a Wait = %d, %v", most, pid, e)
		}
		b.same()
	}
}

// P22.1: of those that there aren't, and of Zombies, all calls tell ErrSrch, ahead of their other errors, and change nothing. (What a Zombie is Get tells, and who isn't there has no children.)
func TestSrch(t *testing.T) {
	b := start(t, 4)
	b.fork(1)
	b.fork(2)
	b.fork(2)
	b.sleep(4, 9)
	b.exit(3, 5)
	for _, pid := range edges {
		if pid == 1 || pid == 2 || pid == 4 {
			continue
		}
		for _, n := range edges {
			if e, g := b.exit(pid, n), b.sleep(pid, n); e != api.ErrSrch || g != api.ErrSrch {
				t.Errorf("P22.1: Exit(%d, %d), Sleep = %v, %v", pid, n, e, g)
			}
		}
		if _, e := b.fork(pid); e != api.ErrSrch {
			t.Errorf("P22.1: Fork(%d) = %v", pid, e)
		}
		if e, g := b.wait(pid), b.kill(pid); e != api.ErrSrch || g != api.ErrSrch {
			t.Errorf("P22.1: Wait(%d), Kill = %v, %v", pid, e, g)
		}
		b.same()
	}
	if p, e := b.p.Get(3); p != (proc.Proc{Pid: 3, Parent: 2, State: proc.Zombie, Code: 5}) || e != api.OK {
		t.Errorf("P22.1: Get of a Zombie = %+v, %v", p, e)
	}
}

// P22.1: Pid 1 neither ends nor is killed, whatever it does; it may sleep.
func TestFirst(t *testing.T) {
	b := start(t, 3)
	for range 2 {
		for _, code := range edges {
			if e := b.exit(1, code); e != api.ErrInval {
				t.Errorf("P22.1: Exit(1, %d) = %v", code, e)
			}
		}
		if e := b.kill(1); e != api.ErrInval {
			t.Errorf("P22.1: Kill(1) = %v", e)
		}
		b.same()
		b.sleep(1, 5)
		b.same()
	}
	if p, _ := b.p.Get(1); p != (proc.Proc{Pid: 1, State: proc.Asleep, Until: 5}) {
		t.Errorf("P22.1: Get(1) = %+v", p)
	}
}

// P22.1: a child is Ready, whatever its Parent is; Pids aren't given again, nor lost by a Fork that is refused.
func TestFork(t *testing.T) {
	b := start(t, 4)
	b.fork(1)
	b.kill(2)
	b.sleep(2, 4)
	if pid, e := b.fork(2); pid != 3 || e != api.OK {
		t.Errorf("P22.1: Fork = %d, %v", pid, e)
	}
	if p, e := b.p.Get(3); p != (proc.Proc{Pid: 3, Parent: 2, State: proc.Ready}) || e != api.OK {
		t.Errorf("P22.1: Get of a child = %+v, %v", p, e)
	}
	b.fork(3)
	b.fork(1)
	b.fork(9)
	b.exit(4, 0)
	b.exit(3, 0)
	b.exit(2, 0)
	b.same()
	for want := 5; want < 30; want++ {
		if pid, e := b.fork(1); pid != want || e != api.OK {
			t.Errorf("P22.2: Fork = %d, %v; want %d", pid, e, want)
		}
		b.exit(want, 0)
		b.same()
	}
}

// P22.1: a Code is the lowest 8 bits of what is handed in.
func TestCode(t *testing.T) {
	for _, code := range append(edges, 128, 511, 512, -257) {
		b := start(t, 3)
		b.fork(1)
		b.fork(2)
		b.exit(3, code)
		b.same()
		p, _ := b.p.Get(3)
		pid, told, e := b.p.Wait(2)
		if want := ((code % 256) + 256) % 256; pid != 3 || told != want || p.Code != want || e != api.OK {
			t.Errorf("P22.1: Exit(3, %d): Get = %+v, Wait = %d, %d, %v", code, p, pid, told, e)
		}
	}
}

// P22.1: who ends isn't Killed any more, nor waits for anything.
func TestExit(t *testing.T) {
	b := start(t, 3)
	b.fork(1)
	b.fork(2)
	b.kill(3)
	b.sleep(3, 8)
	if p, _ := b.p.Get(3); p != (proc.Proc{Pid: 3, Parent: 2, State: proc.Asleep, Until: 8, Killed: true}) {
		t.Errorf("P22.1: Get = %+v", p)
	}
	b.exit(3, 9)
	if p, _ := b.p.Get(3); p != (proc.Proc{Pid: 3, Parent: 2, State: proc.Zombie, Code: 9}) {
		t.Errorf("P22.1: Get of a Zombie = %+v", p)
	}
	b.tick(100)
	b.same()
}

// P22.1, P22.2: the children of one that ends come to 1, and Zombies among them are gone; others stay where they are.
func TestOrphans(t *testing.T) {
	for _, parent := range []int{1, 2} {
		b := start(t, 12)
		b.fork(1)      // 2
		b.fork(parent) // 3, which ends
		b.fork(3)      // 4, Ready
		b.fork(3)      // 5, a Zombie
		b.fork(3)      // 6, Asleep and Killed
		b.fork(4)      // 7, a Zombie of another
		b.fork(3)      // 8, a Zombie
		b.fork(2)      // 9, a Zombie of another
		b.exit(5, 1)
		b.exit(8, 2)
		b.exit(7, 3)
		b.exit(9, 4)
		b.kill(6)
		b.sleep(6, 5)
		b.same()
		b.exit(3, 6)
		b.same()
		want := []int{1, 2, 3, 4, 6, 7, 9}
		if parent == 1 {
			want = []int{1, 2, 4, 6, 7, 9}
		}
		if got := b.p.Pids(); !slices.Equal(got, want) {
			t.Errorf("P22.2: Pids = %v; want %v", got, want)
		}
		if got := b.p.Children(1); !slices.Equal(got, []int{2, 4, 6}) {
			t.Errorf("P22.2: Children(1) = %v", got)
		}
		if p, _ := b.p.Get(6); p != (proc.Proc{Pid: 6, Parent: 1, State: proc.Asleep, Until: 5, Killed: true}) {
			t.Errorf("P22.2: Get of an orphan = %+v", p)
		}
		b.exit(4, 0)
		b.exit(6, 0)
		b.same()
		if got := b.p.Children(1); !slices.Equal(got, []int{2}) {
			t.Errorf("P22.2: Children(1) = %v", got)
		}
	}
}

// P22.1: Wait takes the Zombie of the least Pid, in whichever order they ended; who has children, but no Zombie, must wait.
func TestWait(t *testing.T) {
	b := start(t, 8)
	b.fork(1)
	for range 4 {
		b.fork(2)
	}
	b.fork(3)
	if e, g := b.wait(2), b.wait(4); e != api.ErrAgain || g != api.ErrChild {
		t.Errorf("P22.1: Wait = %v, %v", e, g)
	}
	b.exit(5, 50)
	b.exit(3, 30)
	b.exit(4, 40)
	b.same()
	for _, want := range []int{3, 4, 5} {
		if pid, code, e := b.p.Wait(2); pid != want || code != want*10 || e != api.OK {
			t.Errorf("P22.1: Wait = %d, %d, %v; want %d", pid, code, e, want)
		}
		b.m.wait(2)
		b.same()
	}
	if e := b.wait(2); e != api.ErrAgain {
		t.Errorf("P22.1: Wait = %v", e)
	}
	if e := b.wait(1); e != api.ErrAgain { // 2, and 6 that came to it
		t.Errorf("P22.1: Wait(1) = %v", e)
	}
	b.exit(6, 0)
	if e := b.wait(2); e != api.OK {
		t.Errorf("P22.1: Wait = %v", e)
	}
	b.exit(7, 0)
	b.exit(2, 0)
	if e := b.wait(1); e != api.ErrChild {
		t.Errorf("P22.1: Wait(1) = %v", e)
	}
	b.same()
}

// P22.1: Kill wakes who is Asleep; once and again.
func TestKill(t *testing.T) {
	b := start(t, 3)
	b.fork(1)
	b.fork(1)
	b.sleep(2, 6)
	for range 2 {
		if e := b.kill(2); e != api.OK {
			t.Errorf("P22.1: Kill = %v", e)
		}
		b.kill(3)
		b.same()
		for pid := 2; pid < 4; pid++ {
			if p, _ := b.p.Get(pid); p != (proc.Proc{Pid: pid, Parent: 1, State: proc.Ready, Killed: true}) {
				t.Errorf("P22.1: Get of one that is Killed = %+v", p)
			}
		}
		b.tick(10)
		b.same()
	}
}

// P22.1: who sleeps how long, from whichever time on; the time has an end.
func TestSleep(t *testing.T) {
	for _, now := range append(edges, 100, 1<<39) {
		for _, ticks := range append(edges, 100, 1<<39) {
			b := start(t, 2)
			b.fork(1)
			b.tick(now)
			if e := b.sleep(2, ticks); e != api.OK {
				t.Errorf("P22.1: Sleep(2, %d) = %v", ticks, e)
			}
			b.same()
			for _, again := range []int{-1, 0, 1, ticks} {
				if e := b.sleep(2, again); (e == api.ErrBusy) != (ticks > 0) {
					t.Errorf("P22.1: Sleep(2, %d) behind Sleep(2, %d) = %v", again, ticks, e)
				}
				if ticks < 1 && again > 0 {
					b.kill(2)
				}
				b.same()
			}
			for _, n := range []int{0, ticks - 1, 1, 1, math.MaxInt, 0} {
				b.tick(n)
				b.same()
			}
			if e := b.sleep(2, 1); e != api.OK {
				t.Errorf("P22.1: Sleep of one that woke = %v", e)
			}
			b.same()
		}
	}
}

// P22.1: who slept, and whose time has come, wakes: rising, and once.
func TestTick(t *testing.T) {
	p := proc.New(9)
	for pid := 1; pid < 7; pid++ {
		p.Fork(pid)
	}
	for pid, ticks := range map[int]int{1: 8, 2: 5, 3: 3, 5: 5, 6: 1 << 40, 7: 4} {
		p.Sleep(pid, ticks)
	}
	for _, x := range []struct {
		n, now int
		woken  []int
	}{{0, 0, nil}, {-5, 0, nil}, {2, 2, nil}, {1, 3, []int{3}}, {0, 3, nil}, {2, 5, []int{2, 5, 7}}, {2, 7, nil}, {math.MinInt, 7, nil}, {90, 97, []int{1}}, {1<<40 - 98, 1<<40 - 1, nil}, {2, 1 << 40, []int{6}}, {1, 1 << 40, nil}, {math.MaxInt, 1 << 40, nil}} {
		if woken := p.Tick(x.n); !slices.Equal(woken, x.woken) || p.Now() != x.now {
			t.Errorf("P22.1: Tick(%d) = %v, Now = %d; want %v, %d", x.n, woken, p.Now(), x.woken, x.now)
		}
	}
}

// P22.1: who sleeps when the time stands still sleeps till the next Tick.
func TestEnd(t *testing.T) {
	p := proc.New(1)
	p.Tick(math.MaxInt)
	p.Sleep(1, 1)
	if one, _ := p.Get(1); one != (proc.Proc{Pid: 1, State: proc.Asleep, Until: 1 << 40}) {
		t.Errorf("P22.1: Get = %+v", one)
	}
	if woken := p.Tick(-1); !slices.Equal(woken, []int{1}) || p.Now() != 1<<40 {
		t.Errorf("P22.1: Tick = %v, Now = %d", woken, p.Now())
	}
}

// P22.1: Children has Zombies, too; of 0 it has 1, whose Parent that is.
func TestChildren(t *testing.T) {
	b := start(t, 6)
	for _, pid := range []int{1, 2, 2, 3, 2} {
		b.fork(pid)
	}
	b.exit(4, 0)
	for pid, want := range [][]int{{1}, {2}, {3, 4, 6}, {5}, nil, nil, nil, nil} {
		if got := b.p.Children(pid); !slices.Equal(got, want) {
			t.Errorf("P22.1: Children(%d) = %v; want %v", pid, got, want)
		}
	}
}

// P22.1 to P22.3: any calls, one behind the other.
func TestAny(t *testing.T) {
	r := rand.New(rand.NewSource(221))
	for _, most := range []int{-1, 1, 2, 3, 6, 16, 40} {
		b := start(t, most)
		told := map[api.Errno]int{}
		for range 5000 {
			pids := b.p.Pids()
			pid := pids[r.Intn(len(pids))]
			if r.Intn(12) == 0 {
				pid = edges[r.Intn(len(edges))]
			}
			switch r.Intn(12) {
			case 0, 1, 2, 3, 4:
				_, e := b.fork(pid)
				told[e]++
			case 5, 6:
				told[b.exit(pid, r.Intn(2000)-1000)]++
			case 7, 8:
				told[b.wait(pid)]++
			case 9:
				told[b.kill(pid)]++
			case 10:
				told[b.sleep(pid, r.Intn(8)-1)]++
			case 11:
				b.tick(r.Intn(5) - 1)
			}
			b.same()
		}
		for _, e := range []api.Errno{api.OK, api.ErrInval, api.ErrAgain, api.ErrChild, api.ErrSrch, api.ErrBusy} {
			if told[e] == 0 {
				t.Errorf("New(%d): %v was never told: the test is in vain", most, e)
			}
		}
	}
}

// Memory: answers are new.
func TestMemory(t *testing.T) {
	p := proc.New(4)
	p.Fork(1)
	p.Fork(1)
	p.Sleep(2, 1)
	p.Sleep(3, 1)
	for _, list := range [][]int{p.Pids(), p.Children(1), p.Tick(1)} {
		clear(list[:cap(list)])
	}
	first, second := p.Pids(), p.Pids()
	clear(first[:cap(first)])
	if !slices.Equal(second, []int{1, 2, 3}) || !slices.Equal(p.Children(1), []int{2, 3}) || p.Live(2) != api.OK {
		t.Errorf("P22.1: Pids = %v, Children = %v", second, p.Children(1))
	}
}
