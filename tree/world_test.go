package tree_test

import (
	"bytes"
	"maps"
	"slices"
	"strings"
	"testing"

	"drumlin/api"
	"drumlin/dirent"
	"drumlin/name"
	"drumlin/ptr"
	"drumlin/tree"
)

// thing is a file or a directory as the document tells it.
type thing struct {
	kind, links, holds int
	time               uint32
	bytes              []byte         // of a file
	blocks             map[int]bool   // that it has
	places             []dirent.Entry // of a directory, four a block; those that are none, too
}

// world is a tree as the document tells it, without a disk.
type world struct {
	inodes, room int
	now          uint32
	things       map[int]*thing
}

func newWorld(inodes, room int, now uint32) *world {
	w := &world{inodes, room, now, map[int]*thing{}}
	w.things[1] = &thing{kind: api.Dir, links: 1, places: []dirent.Entry{{Num: 1, Name: ".."}, {}, {}, {}}}
	return w
}

func (w *world) copy() *world {
	other := *w
	other.things = map[int]*thing{}
	for num, x := range w.things {
		y := *x
		y.bytes, y.blocks, y.places = slices.Clone(x.bytes), maps.Clone(x.blocks), slices.Clone(x.places)
		other.things[num] = &y
	}
	return &other
}

// mounted: what a mount finds of it.
func (w *world) mounted() *world {
	other := w.copy()
	for num, x := range other.things {
		x.holds = 0
		if x.links == 0 {
			delete(other.things, num)
		}
	}
	return other
}

func (w *world) used() []int { return slices.Sorted(maps.Keys(w.things)) }

// cost of one, in blocks.
func (x *thing) cost() int {
	if x.kind == api.File {
		return ptr.Cost(slices.Collect(maps.Keys(x.blocks))...)
	}
	var indexes []int
	for i := range len(x.places) / 4 {
		indexes = append(indexes, i)
	}
	return ptr.Cost(indexes...)
}

func (w *world) cost() int {
	sum := 0
	for _, x := range w.things {
		sum += x.cost()
	}
	return sum
}

// entry: where the entry of a name is; -1: there is none.
func (x *thing) entry(name string) int {
	return slices.IndexFunc(x.places, func(y dirent.Entry) bool { return y.Num != 0 && y.Name == name })
}

// target: what a name names; 0: nothing.
func (x *thing) target(name string) int {
	if i := x.entry(name); i >= 0 {
		return x.places[i].Num
	}
	return 0
}

// insert: an entry, which names what it is told to.
func (w *world) insert(num int, name string, target int) {
	x := w.things[num]
	i := x.entry(name)
	if i < 0 {
		i = slices.Index(x.places, dirent.Entry{})
	}
	if i < 0 {
		i = len(x.places)
		x.places = append(x.places, make([]dirent.Entry, 4)...)
	}
	x.places[i] = dirent.Entry{Num: target, Name: name}
	x.time = w.now
}

// remove: an entry, and blocks at the end that are empty.
func (w *world) remove(num int, name string) {
	x := w.things[num]
	x.places[x.entry(name)] = dirent.Entry{}
	for len(x.places) > 0 && slices.Equal(x.places[len(x.places)-4:], make([]dirent.Entry, 4)) {
		x.places = x.places[:len(x.places)-4]
	}
	x.time = w.now
}

// grows: what an entry more costs.
func (w *world) grows(num int) int {
	x := w.things[num]
	if slices.Contains(x.places, dirent.Entry{}) {
		return 0
	}
	y := thing{kind: api.Dir, places: make([]dirent.Entry, len(x.places)+4)}
	return y.cost() - x.cost()
}

// known: the errors of a number.
func (w *world) known(num int) api.Errno {
	if num < 1 || num > w.inodes {
		return api.ErrInval
	}
	if w.things[num] == nil {
		return api.ErrNoent
	}
	return api.OK
}

// file: and those of what isn't a file's.
func (w *world) file(num int) api.Errno {
	if e := w.known(num); e != api.OK {
		return e
	}
	if w.things[num].kind == api.Dir {
		return api.ErrIsdir
	}
	return api.OK
}

func (w *world) unname(num int) {
	x := w.things[num]
	x.links--
	x.places = nil
	w.bury(num)
}

func (w *world) bury(num int) {
	if x := w.things[num]; x.links == 0 && x.holds == 0 {
		delete(w.things, num)
	}
}

func (w *world) hold(num int) api.Errno {
	e := w.known(num)
	if e == api.OK {
		w.things[num].holds++
	}
	return e
}

func (w *world) drop(num int) api.Errno {
	if e := w.known(num); e != api.OK {
		return e
	}
	if w.things[num].holds == 0 {
		return api.ErrInval
	}
	w.things[num].holds--
	w.bury(num)
	return api.OK
}

func (w *world) walk(from int, path string) (int, api.Errno) {
	p, e := name.Parse(path)
	if e != api.OK {
		return 0, e
	}
	return w.way(from, p)
}

func (w *world) way(from int, p name.Path) (int, api.Errno) {
	if e := w.known(from); e != api.OK {
		return 0, e
	}
	if p.Abs {
		from = api.Root
	}
	for _, part := range p.Parts {
		x := w.things[from]
		if x.kind == api.File {
			return 0, api.ErrNotdir
		}
		if from = x.target(part); from == 0 {
			return 0, api.ErrNoent
		}
	}
	if p.Dir && w.things[from].kind == api.File {
		return 0, api.ErrNotdir
	}
	return from, api.OK
}

// vacant: where a new entry is to stand: as of Make, behind its kind.
func (w *world) vacant(from int, p name.Path, kind int) (int, string, api.Errno) {
	up, last, ok := p.Last()
	if !ok {
		return 0, "", api.ErrExist
	}
	at, e := w.way(from, up)
	switch {
	case e != api.OK:
	case w.things[at].target(last) != 0:
		e = api.ErrExist
	case kind == api.File && p.Dir:
		e = api.ErrNotdir
	case w.things[at].links == 0:
		e = api.ErrNoent
	}
	return at, last, e
}

func (w *world) make(from int, path string, kind int) (int, api.Errno) {
	p, e := name.Parse(path)
	if e != api.OK {
		return 0, e
	}
	if kind != api.File && kind != api.Dir {
		return 0, api.ErrInval
	}
	at, last, e := w.vacant(from, p, kind)
	if e != api.OK {
		return 0, e
	}
	if len(w.things) == w.inodes || w.cost()+w.grows(at)+kind > w.room { // a file costs 1, a directory 2
		return 0, api.ErrNospc
	}
	num := 1
	for w.things[num] != nil {
		num++
	}
	x := &thing{kind: kind, links: 1, time: w.now}
	if kind == api.Dir {
		x.places = []dirent.Entry{{Num: at, Name: ".."}, {}, {}, {}}
	} else {
		x.blocks = map[int]bool{}
	}
	w.things[num] = x
	w.insert(at, last, num)
	return num, api.OK
}

func (w *world) link(from int, old, path string) api.Errno {
	num, e := w.walk(from, old)
	if e != api.OK {
		return e
	}
	return w.linkNum(num, from, path)
}

func (w *world) linkNum(num, from int, path string) api.Errno {
	if e := w.file(num); e != api.OK {
		return e
	}
	p, e := name.Parse(path)
	if e != api.OK {
		return e
	}
	at, last, e := w.vacant(from, p, api.File)
	if e != api.OK {
		return e
	}
	if w.things[num].links == 100 {
		return api.ErrMlink
	}
	if w.cost()+w.grows(at) > w.room {
		return api.ErrNospc
	}
	w.things[num].links++
	w.insert(at, last, num)
	return api.OK
}

// entry: the directory and the name of a path's last part, and what stands there.
func (w *world) entry(from int, path string) (at int, last string, num int, must bool, e api.Errno) {
	p, e := name.Parse(path)
	if e != api.OK {
		return
	}
	up, last, ok := p.Last()
	if !ok {
		e = api.ErrBusy
		return
	}
	if at, e = w.way(from, up); e == api.OK {
		num, must = w.things[at].target(last), p.Dir
	}
	return
}

func (w *world) unlink(from int, path string, kind int) api.Errno {
	at, last, num, must, e := w.entry(from, path)
	switch {
	case e != api.OK:
		return e
	case num == 0:
		return api.ErrNoent
	}
	x := w.things[num]
	switch {
	case kind == api.File && x.kind == api.Dir:
		return api.ErrIsdir
	case kind == api.File && must, kind == api.Dir && x.kind == api.File:
		return api.ErrNotdir
	case kind == api.Dir && !x.empty():
		return api.ErrNotempty
	}
	w.remove(at, last)
	w.unname(num)
	return api.OK
}

func (x *thing) empty() bool {
	return !slices.ContainsFunc(x.places, func(y dirent.Entry) bool { return y.Num != 0 && y.Name != ".." })
}

func (w *world) rename(from int, old, path string) api.Errno {
	at, last, num, must, e := w.entry(from, old)
	if e != api.OK {
		return e
	}
	if num == 0 {
		return api.ErrNoent
	}
	x := w.things[num]
	if x.kind == api.File && must {
		return api.ErrNotdir
	}
	to, next, other, must, e := w.entry(from, path)
	if e != api.OK {
		return e
	}
	for up := to; x.kind == api.Dir && up != 0; { // the way up to Root
		if up == num {
			return api.ErrInval
		}
		above := w.things[up].target("..")
		if above == up {
			break
		}
		up = above
	}
	if w.things[to].links == 0 {
		return api.ErrNoent
	}
	if x.kind == api.File && must {
		return api.ErrNotdir
	}
	if other == num {
		return api.OK
	}
	if y := w.things[other]; y != nil {
		switch {
		case x.kind == api.Dir && y.kind == api.File:
			return api.ErrNotdir
		case x.kind == api.File && y.kind == api.Dir:
			return api.ErrIsdir
		case y.kind == api.Dir && !y.empty():
			return api.ErrNotempty
		}
	} else if w.cost()+w.grows(to) > w.room {
		return api.ErrNospc
	}
	w.insert(to, next, num)
	w.remove(at, last)
	if x.kind == api.Dir && at != to {
		w.insert(num, "..", to)
	}
	if other != 0 {
		w.unname(other)
	}
	return api.OK
}

func (w *world) write(num, at int, b []byte) (int, api.Errno) {
	if e := w.file(num); e != api.OK {
		return 0, e
	}
	if at < 0 {
		return 0, api.ErrInval
	}
	if len(b) == 0 {
		return 0, api.OK
	}
	if at >= api.MaxSize {
		return 0, api.ErrFbig
	}
	x := w.things[num]
	n := 0
	for n < len(b) && at+n < api.MaxSize {
		i := (at + n) / 128
		had := x.blocks[i]
		x.blocks[i] = true
		if w.cost() > w.room {
			if !had {
				delete(x.blocks, i)
			}
			break
		}
		n = min(len(b), (i+1)*128-at)
	}
	n = min(n, api.MaxSize-at)
	if n == 0 {
		return 0, api.ErrNospc
	}
	x.bytes = append(x.bytes, make([]byte, max(0, at+n-len(x.bytes)))...)
	copy(x.bytes[at:], b[:n])
	x.time = w.now
	return n, api.OK
}

func (w *world) truncate(num, size int) api.Errno {
	if e := w.file(num); e != api.OK {
		return e
	}
	if size < 0 {
		return api.ErrInval
	}
	if size > api.MaxSize {
		return api.ErrFbig
	}
	x := w.things[num]
	x.bytes = append(x.bytes[:min(size, len(x.bytes))], make([]byte, max(0, size-len(x.bytes)))...)
	for i := range x.blocks {
		if i*128 >= size {
			delete(x.blocks, i)
		}
	}
	x.time = w.now
	return api.OK
}

func (w *world) read(num, at, size int) ([]byte, api.Errno) {
	if e := w.file(num); e != api.OK {
		return nil, e
	}
	if at < 0 || size < 0 {
		return nil, api.ErrInval
	}
	b := w.things[num].bytes
	from := min(at, len(b))
	return b[from : from+min(size, len(b)-from)], api.OK
}

func (w *world) stat(num int) (tree.Stat, api.Errno) {
	if e := w.known(num); e != api.OK {
		return tree.Stat{}, e
	}
	x := w.things[num]
	size := len(x.bytes)
	if x.kind == api.Dir {
		size = 32 * len(x.places)
	}
	return tree.Stat{Num: num, Kind: x.kind, Size: size, Links: x.links, Time: x.time}, api.OK
}

func (w *world) list(num int) ([]dirent.Entry, api.Errno) {
	if e := w.known(num); e != api.OK {
		return nil, e
	}
	if w.things[num].kind == api.File {
		return nil, api.ErrNotdir
	}
	return slices.DeleteFunc(slices.Clone(w.things[num].places), func(x dirent.Entry) bool { return x.Num == 0 }), api.OK
}

// named: how often a number is named, where first, and by which name.
func (w *world) named(num int) (n, up int, name string) {
	for _, k := range w.used() {
		for _, x := range w.things[k].places {
			if x.Num == num && x.Name != ".." {
				if n++; n == 1 {
					up, name = k, x.Name
				}
			}
		}
	}
	return
}

// path is found by who names whom, not by "..".
func (w *world) path(num int) (string, api.Errno) {
	if e := w.known(num); e != api.OK {
		return "", e
	}
	if w.things[num].kind == api.File {
		return "", api.ErrNotdir
	}
	var parts []string
	for num != api.Root {
		n, up, name := w.named(num)
		if n == 0 || len(parts) == 32 {
			return "", api.ErrNoent
		}
		parts = append(parts, name)
		num = up
	}
	slices.Reverse(parts)
	return "/" + strings.Join(parts, "/"), api.OK
}

// shape: in what a tree isn't what a world is, of all that is told at little cost; nothing, if it is.
func shape(x *tree.Tree, w *world) []any {
	v := x.Vol()
	if !slices.Equal(v.Used(), w.used()) || v.Cost() != w.cost() || v.Cost() > w.room {
		return []any{"Used", v.Used(), w.used(), "Cost", v.Cost(), w.cost(), "of", w.room}
	}
	for num := range w.inodes + 2 {
		s, e := x.Stat(num)
		if want, f := w.stat(num); s != want || e != f {
			return []any{"Stat", num, s, e, want, f}
		}
		l, e := x.List(num)
		if want, f := w.list(num); !slices.Equal(l, want) || e != f {
			return []any{"List", num, l, e, want, f}
		}
	}
	return nil
}

// differs: and of all else.
func differs(x *tree.Tree, w *world) []any {
	if d := shape(x, w); d != nil {
		return d
	}
	for num := range w.inodes + 2 {
		p, e := x.Path(num)
		if want, f := w.path(num); p != want || e != f {
			return []any{"Path", num, p, e, want, f}
		}
		b, e := x.Read(num, 0, api.MaxSize)
		if want, f := w.read(num, 0, api.MaxSize); !bytes.Equal(b, want) || e != f {
			return []any{"Read", num, len(b), e, len(want), f}
		}
		if y := w.things[num]; y != nil && y.kind == api.File {
			if list, _ := x.Vol().Indexes(num); !slices.Equal(list, slices.Sorted(maps.Keys(y.blocks))) {
				return []any{"Indexes", num, list, y.blocks}
			}
		}
	}
	return whole(x)
}

// whole: is it a tree: has each directory but Root just one name, each file as many links as names, and is all there that has a name, and nothing else, but what is held?
func whole(x *tree.Tree) []any {
	names, paths := map[int]int{1: 1}, map[int]string{}
	for _, num := range x.Vol().Used() {
		list, _ := x.List(num)
		for _, y := range list {
			if y.Name != ".." {
				names[y.Num]++
				if s, e := x.Stat(y.Num); e != api.OK || s.Kind == api.Dir && !strings.HasSuffix(path(x, y.Num), "/"+y.Name) {
					return []any{"entry", num, y, e}
				}
			} else if s, _ := x.Stat(y.Num); s.Kind != api.Dir {
				return []any{"..", num, s}
			}
		}
	}
	for _, num := range x.Vol().Used() {
		s, _ := x.Stat(num)
		if s.Links != names[num] || s.Kind == api.Dir && s.Links > 1 {
			return []any{"links", s, names[num]}
		}
		if s.Kind == api.Dir && s.Links == 1 {
			p := path(x, num)
			if k, e := x.Walk(1, p+"/."); len(p) < 250 && (k != num || e != api.OK) {
				return []any{"path", num, p, k, e}
			}
			for k, other := range paths {
				if p == other {
					return []any{"path", num, k, p}
				}
			}
			paths[num] = p
		}
	}
	return nil
}

func path(x *tree.Tree, num int) string {
	p, _ := x.Path(num)
	return p
}

func is(t *testing.T, x *tree.Tree, w *world, what string) {
	t.Helper()
	if d := differs(x, w); d != nil {
		t.Fatalf("P18.1: %s: %v", what, d)
	}
}
