package tree_test

import (
	"math/rand"
	"reflect"
	"slices"
	"strings"
	"testing"

	"drumlin/api"
	"drumlin/disk"
	"drumlin/geom"
	"drumlin/tree"
)

// act is a call, of a tree and of a world: both answer a number, bytes and an error.
type act struct {
	what string
	args []any
	tree func(x *tree.Tree) (int, []byte, api.Errno)
	want func(w *world) (int, []byte, api.Errno)
}

// walk is a random walk of a tree and its world.
type walk struct {
	d       *disk.Disk
	x       *tree.Tree
	now     *world
	flushed *world
	r       *rand.Rand
	met     map[string]int // how often each call had each error
}

func format(t *testing.T, g geom.Geom, time uint32) (*disk.Disk, *tree.Tree) {
	t.Helper()
	d, e := disk.New(g.Sectors())
	if e != api.OK {
		t.Fatalf("no disk of %v: %v", g, e)
	}
	x, e := tree.Format(d, g, time)
	if e != api.OK {
		t.Fatalf("P18.1: Format(%v) = %v", g, e)
	}
	return d, x
}

func newWalk(t *testing.T, g geom.Geom, seed int64) *walk {
	t.Helper()
	d, x := format(t, g, 3)
	w := newWorld(g.Inodes, g.Room(), 3)
	return &walk{d, x, w, w.copy(), rand.New(rand.NewSource(seed)), map[string]int{}}
}

// num: mostly one that is used.
func (w *walk) num() int {
	if w.r.Intn(8) == 0 {
		return w.r.Intn(w.now.inodes+4) - 1
	}
	used := w.now.used()
	return used[w.r.Intn(len(used))]
}

var parts = []string{"a", "b", "c", "d", "e", "f", "..", "..", ".", "", strings.Repeat("x", 26)}

// path: mostly a short one of few names, often one behind a directory's own path.
func (w *walk) path() string {
	if w.r.Intn(40) == 0 {
		return []string{"", "/", ".", "/..", "a\x00", strings.Repeat("y", 27), strings.Repeat("a/", 33), strings.Repeat("/", 256), "//a//./b"}[w.r.Intn(9)]
	}
	path := parts[w.r.Intn(len(parts))]
	for w.r.Intn(3) == 0 {
		path += "/" + parts[w.r.Intn(len(parts))]
	}
	if w.r.Intn(2) == 0 {
		if up, e := w.now.path(w.num()); e == api.OK {
			path = up + "/" + path
		}
	}
	if w.r.Intn(8) == 0 {
		path += "/"
	}
	return path
}

// bytes: mostly few.
func (w *walk) bytes() []byte {
	n := w.r.Intn(300)
	if w.r.Intn(8) == 0 {
		n = w.r.Intn(9000)
	}
	b := make([]byte, n*w.r.Intn(10)/9)
	w.r.Read(b)
	return b
}

func (w *walk) place() int {
	return []int{w.r.Intn(500), w.r.Intn(500), w.r.Intn(9000), w.r.Intn(api.MaxSize), api.MaxSize - w.r.Intn(200), api.MaxSize + w.r.Intn(3) - 1, -w.r.Intn(3)}[w.r.Intn(7)]
}

// next: any call.
func (w *walk) next() act {
	from, num, old, path := w.num(), w.num(), w.path(), w.path()
	e := func(e api.Errno) (int, []byte, api.Errno) { return 0, nil, e }
	n := func(n int, e api.Errno) (int, []byte, api.Errno) { return n, nil, e }
	switch k := w.r.Intn(30); {
	case k < 5:
		kind := 1 + w.r.Intn(2)
		if w.r.Intn(30) == 0 {
			kind = w.r.Intn(5) - 1
		}
		return act{"Make", []any{from, path, kind}, func(x *tree.Tree) (int, []byte, api.Errno) { return n(x.Make(from, path, kind)) }, func(w *world) (int, []byte, api.Errno) { return n(w.make(from, path, kind)) }}
	case k < 8:
		return act{"Link", []any{from, old, path}, func(x *tree.Tree) (int, []byte, api.Errno) { return e(x.Link(from, old, path)) }, func(w *world) (int, []byte, api.Errno) { return e(w.link(from, old, path)) }}
	case k < 10:
		return act{"LinkNum", []any{num, from, path}, func(x *tree.Tree) (int, []byte, api.Errno) { return e(x.LinkNum(num, from, path)) }, func(w *world) (int, []byte, api.Errno) { return e(w.linkNum(num, from, path)) }}
	case k < 12:
		return act{"Unlink", []any{from, path}, func(x *tree.Tree) (int, []byte, api.Errno) { return e(x.Unlink(from, path)) }, func(w *world) (int, []byte, api.Errno) { return e(w.unlink(from, path, api.File)) }}
	case k < 14:
		return act{"Rmdir", []any{from, path}, func(x *tree.Tree) (int, []byte, api.Errno) { return e(x.Rmdir(from, path)) }, func(w *world) (int, []byte, api.Errno) { return e(w.unlink(from, path, api.Dir)) }}
	case k < 20:
		return act{"Rename", []any{from, old, path}, func(x *tree.Tree) (int, []byte, api.Errno) { return e(x.Rename(from, old, path)) }, func(w *world) (int, []byte, api.Errno) { return e(w.rename(from, old, path)) }}
	case k < 23:
		at, b := w.place(), w.bytes()
		return act{"Write", []any{num, at, len(b)}, func(x *tree.Tree) (int, []byte, api.Errno) { return n(x.Write(num, at, b)) }, func(w *world) (int, []byte, api.Errno) { return n(w.write(num, at, b)) }}
	case k < 25:
		size := w.place()
		return act{"Truncate", []any{num, size}, func(x *tree.Tree) (int, []byte, api.Errno) { return e(x.Truncate(num, size)) }, func(w *world) (int, []byte, api.Errno) { return e(w.truncate(num, size)) }}
	case k == 25:
		at, size := w.place(), w.place()
		return act{"Read", []any{num, at, size}, func(x *tree.Tree) (int, []byte, api.Errno) {
			b, e := x.Read(num, at, size)
			return 0, b, e
		}, func(w *world) (int, []byte, api.Errno) {
			b, e := w.read(num, at, size)
			return 0, b, e
		}}
	case k == 26:
		return act{"Walk", []any{from, path}, func(x *tree.Tree) (int, []byte, api.Errno) { return n(x.Walk(from, path)) }, func(w *world) (int, []byte, api.Errno) { return n(w.walk(from, path)) }}
	case k == 27:
		return act{"Hold", []any{num}, func(x *tree.Tree) (int, []byte, api.Errno) { return e(x.Hold(num)) }, func(w *world) (int, []byte, api.Errno) { return e(w.hold(num)) }}
	}
	return act{"Drop", []any{num}, func(x *tree.Tree) (int, []byte, api.Errno) { return e(x.Drop(num)) }, func(w *world) (int, []byte, api.Errno) { return e(w.drop(num)) }}
}

// do: a call, of both.
func (w *walk) do(t *testing.T, a act) {
	t.Helper()
	if w.r.Intn(4) == 0 {
		w.now.now += uint32(w.r.Intn(3))
		w.x.Vol().SetTime(w.now.now)
	}
	was := w.now.copy()
	n, b, e := a.tree(w.x)
	k, c, f := a.want(w.now)
	if n != k || string(b) != string(c) || e != f {
		t.Fatalf("P18.1: %s%q = %d, %q, %v; want %d, %q, %v", a.what, a.args, n, b, e, k, c, f)
	}
	w.met[a.what+" "+number(e)]++
	if e != api.OK {
		w.now = was
		if d := w.differs(); d != nil {
			t.Fatalf("P18.3: %s%q = %v changed something: %v", a.what, a.args, e, d)
		}
	}
}

// differs: now and then in all.
func (w *walk) differs() []any {
	if w.r.Intn(20) == 0 {
		return differs(w.x, w.now)
	}
	return shape(w.x, w.now)
}

// each: a walk of each geometry, all at a time; what all of them met.
func each(t *testing.T, do func(t *testing.T, w *walk)) map[string]int {
	t.Helper()
	met := make([]map[string]int, len(geoms))
	t.Run("all", func(t *testing.T) {
		for seed, g := range geoms {
			t.Run("", func(t *testing.T) {
				t.Parallel()
				w := newWalk(t, g, int64(seed))
				met[seed] = w.met
				do(t, w)
			})
		}
	})
	sum := map[string]int{}
	for _, m := range met {
		for what, n := range m {
			sum[what] += n
		}
	}
	return sum
}

func number(e api.Errno) string {
	return string([]byte{'0' + byte(e)/10, '0' + byte(e)%10})
}

// save: one of the calls that write.
func (w *walk) save() api.Errno {
	v := w.x.Vol()
	switch w.r.Intn(6) {
	case 0:
		return v.Checkpoint()
	case 1:
		_, e := v.Clean()
		return e
	}
	return v.Flush()
}

var geoms = []geom.Geom{{Segs: 10, Groups: 1, Inodes: 3}, {Segs: 10, Groups: 1, Inodes: 8}, {Segs: 14, Groups: 1, Inodes: 200}, {Segs: 16, Groups: 1, Inodes: 12}, {Segs: 20, Groups: 2, Inodes: 20}, {Segs: 20, Groups: 2, Inodes: 70}, {Segs: 30, Groups: 5, Inodes: 30}}

// wanted: each error that the document names of each call; all of them must come up in a walk.
var wanted = map[string][]api.Errno{
	"Make":     {0, api.ErrInval, api.ErrNoent, api.ErrNametoolong, api.ErrExist, api.ErrNotdir, api.ErrNospc},
	"Link":     {0, api.ErrInval, api.ErrNoent, api.ErrNametoolong, api.ErrExist, api.ErrNotdir, api.ErrIsdir, api.ErrNospc},
	"LinkNum":  {0, api.ErrInval, api.ErrNoent, api.ErrNametoolong, api.ErrExist, api.ErrNotdir, api.ErrIsdir, api.ErrNospc},
	"Unlink":   {0, api.ErrInval, api.ErrNoent, api.ErrNametoolong, api.ErrBusy, api.ErrNotdir, api.ErrIsdir},
	"Rmdir":    {0, api.ErrInval, api.ErrNoent, api.ErrNametoolong, api.ErrBusy, api.ErrNotdir, api.ErrNotempty},
	"Rename":   {0, api.ErrInval, api.ErrNoent, api.ErrNametoolong, api.ErrBusy, api.ErrNotdir, api.ErrIsdir, api.ErrNotempty, api.ErrNospc},
	"Write":    {0, api.ErrInval, api.ErrNoent, api.ErrIsdir, api.ErrFbig, api.ErrNospc},
	"Truncate": {0, api.ErrInval, api.ErrNoent, api.ErrIsdir, api.ErrFbig},
	"Read":     {0, api.ErrInval, api.ErrNoent, api.ErrIsdir},
	"Walk":     {0, api.ErrInval, api.ErrNoent, api.ErrNametoolong, api.ErrNotdir},
	"Hold":     {0, api.ErrInval, api.ErrNoent},
	"Drop":     {0, api.ErrInval, api.ErrNoent},
}

// P18.1 to P18.4: call by call a tree is what its world is, whenever it is flushed or cleaned; beside an error nothing has changed.
func TestModel(t *testing.T) {
	met := each(t, func(t *testing.T, w *walk) {
		for step := range 3000 {
			w.do(t, w.next())
			if step%40 == 0 {
				if e := w.save(); e != api.OK {
					t.Fatalf("P18.4: a flush with a cost of %d of %d = %v", w.x.Vol().Cost(), w.now.room, e)
				}
			}
			if d := w.differs(); d != nil {
				t.Fatalf("P18.1: a call: %v", d)
			}
		}
		is(t, w.x, w.now, "all calls")
	})
	for what, list := range wanted {
		for _, e := range list {
			if met[what+" "+number(e)] == 0 {
				t.Errorf("P18.1: %s never told %v: the walk is in vain", what, e)
			}
		}
	}
	for what := range met {
		call, e, _ := strings.Cut(what, " ")
		if !slices.ContainsFunc(wanted[call], func(x api.Errno) bool { return number(x) == e }) {
			t.Errorf("P18.1: %s told %s", call, e)
		}
	}
}

// P18.5: wherever the disk dies in a flush, and whichever writes are kept: what is mounted is the tree as it was flushed last, or was to be; what has no name is gone, what was held isn't any more.
func TestCrashes(t *testing.T) {
	each(t, func(t *testing.T, w *walk) {
		died := 0
		for range 400 {
			for range w.r.Intn(20) {
				w.do(t, w.next())
			}
			if w.r.Intn(3) > 0 {
				w.d.Arm(w.r.Intn(1 + w.r.Intn(60)))
			}
			e := w.save()
			w.d.Arm(-1)
			if e == api.OK {
				w.flushed = w.now.copy()
				if w.r.Intn(3) > 0 {
					continue
				}
			} else if e != api.ErrIo {
				t.Fatalf("P18.4: a flush with a cost of %d of %d = %v", w.x.Vol().Cost(), w.now.room, e)
			} else {
				died++
			}
			w.crash(t)
		}
		if died < 20 {
			t.Errorf("P18.5: the disk died %d times: the test is in vain", died)
		}
	})
}

// crash: the disk crashes, and what lies there is mounted.
func (w *walk) crash(t *testing.T) {
	t.Helper()
	keep := make([]bool, len(w.d.Queue()))
	few := w.r.Intn(4)
	for i := range keep {
		keep[i] = w.r.Intn(3) < few
	}
	w.d.Crash(keep...)
	was := w.d.Twin()
	x, e := tree.Mount(w.d)
	if e != api.OK || !w.d.Same(was) {
		t.Fatalf("P18.5: Mount = %v", e)
	}
	w.x = x
	old, now := w.flushed.mounted(), w.now.mounted()
	before, behind := differs(x, old), differs(x, now)
	if before != nil && behind != nil {
		t.Fatalf("P18.5: Mount: neither %v, nor %v", before, behind)
	}
	if behind == nil {
		old = now
	}
	old.now = x.Vol().Time()
	w.flushed, w.now = old.copy(), old
}

// P18.3: a disk that is dead: a call does what it does, or tells that and has changed nothing.
func TestDead(t *testing.T) {
	met := each(t, func(t *testing.T, w *walk) {
		for step := range 2000 {
			for range w.r.Intn(4) { // so that some blocks are in memory alone
				w.do(t, w.next())
			}
			if step%7 == 0 {
				if e := w.save(); e != api.OK {
					t.Fatalf("P18.4: a flush = %v", e)
				}
			}
			w.dead(t, w.next())
		}
	})
	for what := range wanted {
		if met[what+" "+number(api.ErrIo)] == 0 && what != "Hold" && what != "Drop" {
			t.Errorf("P18.3: %s never met a dead disk: the test is in vain", what)
		}
	}
}

// dead: a call, while the disk is dead.
func (w *walk) dead(t *testing.T, a act) {
	t.Helper()
	w.d.Arm(0)
	w.d.Flush()
	n, b, e := a.tree(w.x)
	w.d.Crash()
	w.met[a.what+" "+number(e)]++
	if e == api.ErrIo {
		if n != 0 || b != nil {
			t.Fatalf("P18.3: %s%q of a dead disk = %d, %q, %v", a.what, a.args, n, b, e)
		}
	} else if k, c, f := a.want(w.now); n != k || string(b) != string(c) || e != f {
		t.Fatalf("P18.1: %s%q of a dead disk = %d, %q, %v; want %d, %q, %v", a.what, a.args, n, b, e, k, c, f)
	}
	if d := w.differs(); d != nil {
		t.Fatalf("P18.3: %s%q of a dead disk = %v: %v", a.what, a.args, e, d)
	}
}

// P18.3: a disk that is dead, where nothing of a rename must be read from it but ".." of what is moved.
func TestDeadRename(t *testing.T) {
	dd, y := grown(t)
	if e := y.Vol().Flush(); e != api.OK {
		t.Fatalf("P18.4: a flush = %v", e)
	}
	y.Unlink(d, "h")
	y.Unlink(1, "f")
	y.Make(1, "new", api.File) // in its place: all of both directories is in memory alone
	was := of(y)
	dd.Arm(0)
	dd.Flush()
	if e := y.Rename(1, "x", "d/x"); e != api.ErrIo {
		t.Errorf("P18.3: Rename of a dead disk = %v", e)
	}
	if e := y.Rename(1, "new", "d/new"); e != api.OK || y.Rename(d, "new", "/new") != api.OK {
		t.Errorf("P18.3: Rename of a file of a dead disk = %v", e)
	}
	dd.Crash()
	if now := of(y); !reflect.DeepEqual(now, was) {
		t.Errorf("P18.3: something changed: %v; was %v", now, was)
	}
}
