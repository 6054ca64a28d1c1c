package play_test

import (
	"fmt"
	"maps"
	"slices"
	"sort"
	"strings"

	"drumlin/geom"
)

// The errors that a world of names tells, by the document's numbers.
const (
	inval, noent, exist, notdir, isdir, notempty = 1, 4, 5, 6, 7, 8
	nametoolong, mlink, nospc, fbig, busy        = 9, 10, 11, 12, 22
)

const maxSize = 136192

// entry of a directory; of the number 0 none.
type entry struct {
	num  int
	name string
}

// inode is a file or a directory, in memory alone.
type inode struct {
	kind, links, size int
	time              uint32
	blocks            map[int]*[128]byte // of a file, those that aren't holes
	slots             []entry            // of a directory, four a block
}

// indexes of the blocks that it has.
func (n *inode) indexes() []int {
	if n.kind == 1 {
		return slices.Sorted(maps.Keys(n.blocks))
	}
	var list []int
	for i := range len(n.slots) / 4 {
		list = append(list, i)
	}
	return list
}

// cost of some blocks, and of the inode: counted block by block.
func cost(indexes []int) int {
	extra := map[string]bool{}
	for _, i := range indexes {
		if i >= 8 && i < 40 {
			extra["single"] = true
		}
		if i >= 40 {
			extra["double"] = true
			extra[fmt.Sprint("leaf ", (i-40)/32)] = true
		}
	}
	return 1 + len(indexes) + len(extra)
}

func (n *inode) clone() *inode {
	x := *n
	x.blocks, x.slots = map[int]*[128]byte{}, slices.Clone(n.slots)
	for i, b := range n.blocks {
		c := *b
		x.blocks[i] = &c
	}
	return &x
}

// world is what a tree is, without a disk and a log: it knows no more than its room.
type world struct {
	g     geom.Geom
	nodes map[int]*inode
	now   uint32 // the volume's time
}

func newWorld(g geom.Geom) *world {
	root := &inode{kind: 2, links: 1, slots: make([]entry, 4)}
	root.slots[0] = entry{1, ".."}
	return &world{g: g, nodes: map[int]*inode{1: root}}
}

// named: another one like it, of which what has no name is gone.
func (w *world) named() *world {
	x := &world{g: w.g, nodes: map[int]*inode{}, now: w.now}
	for num, n := range w.nodes {
		if n.links > 0 {
			x.nodes[num] = n.clone()
		}
	}
	return x
}

// room: how many blocks may live, reckoned by the chapter's words.
func (w *world) room() int {
	capacity := 8 * w.g.Groups
	chunks := (w.g.Inodes + 9) / 10
	x := (chunks + capacity - 1) / capacity
	return (w.g.Segs - 6 - 2*x) / 2 * capacity
}

func (w *world) cost() int {
	sum := 0
	for _, n := range w.nodes {
		sum += cost(n.indexes())
	}
	return sum
}

// fits: is there room for so much more?
func (w *world) fits(more int) bool { return w.cost()+more <= w.room() }

// path is one that was read.
type path struct {
	abs, dir bool
	parts    []string
}

func readPath(s string) (path, int) {
	var p path
	if strings.ContainsRune(s, 0) {
		return p, inval
	}
	if s == "" {
		return p, noent
	}
	p.abs = s[0] == '/'
	p.dir = s[len(s)-1] == '/'
	long := len(s) > 255
	last := ""
	for _, part := range strings.Split(s, "/") {
		if part == "" {
			continue
		}
		last = part
		if part != "." {
			p.parts = append(p.parts, part)
			long = long || len(part) > 26
		}
	}
	p.dir = p.dir || last == "." || last == ".."
	if long || len(p.parts) > 32 {
		return path{}, nametoolong
	}
	return p, 0
}

// find: the number of an entry; 0: there is none.
func (n *inode) find(name string) int {
	for _, x := range n.slots {
		if x.num != 0 && x.name == name {
			return x.num
		}
	}
	return 0
}

// free: the first place of a directory that is none, maybe one behind its end.
func (n *inode) free() int {
	for i, x := range n.slots {
		if x.num == 0 {
			return i
		}
	}
	return len(n.slots)
}

// growth: what an entry more costs.
func (n *inode) growth() int {
	if n.free() < len(n.slots) {
		return 0
	}
	list := n.indexes()
	return cost(append(list, len(list))) - cost(n.indexes())
}

func (w *world) insert(dir int, name string, num int) {
	n := w.nodes[dir]
	i := n.free()
	if i == len(n.slots) {
		n.slots = append(n.slots, make([]entry, 4)...)
	}
	n.slots[i] = entry{num, name}
	n.time = w.now
}

func (w *world) remove(dir int, name string) {
	n := w.nodes[dir]
	for i, x := range n.slots {
		if x.num != 0 && x.name == name {
			n.slots[i] = entry{}
			break
		}
	}
	for len(n.slots) > 0 && !slices.ContainsFunc(n.slots[len(n.slots)-4:], func(x entry) bool { return x.num != 0 }) {
		n.slots = n.slots[:len(n.slots)-4]
	}
	n.time = w.now
}

func (w *world) walkParts(from int, p path) (int, int) {
	at := from
	if p.abs {
		at = 1
	}
	for _, part := range p.parts {
		if w.nodes[at].kind != 2 {
			return 0, notdir
		}
		if at = w.nodes[at].find(part); at == 0 {
			return 0, noent
		}
	}
	if p.dir && w.nodes[at].kind != 2 {
		return 0, notdir
	}
	return at, 0
}

func (w *world) walk(from int, s string) (int, int) {
	p, e := readPath(s)
	if e != 0 {
		return 0, e
	}
	return w.walkParts(from, p)
}

// place: where the last part of a path stands, or would.
type place struct {
	dir, num int // num 0: there is no such entry
	name     string
	must     bool // a directory is meant
}

// locate: e is told, if there is no last part.
func (w *world) locate(from int, s string, e int) (place, int) {
	p, err := readPath(s)
	if err != 0 {
		return place{}, err
	}
	last := len(p.parts) - 1
	if last < 0 || p.parts[last] == ".." {
		return place{}, e
	}
	dir, err := w.walkParts(from, path{p.abs, true, p.parts[:last]})
	if err != 0 {
		return place{}, err
	}
	return place{dir, w.nodes[dir].find(p.parts[last]), p.parts[last], p.dir}, 0
}

// fresh: a place for something new, of a kind.
func (w *world) fresh(from int, s string, kind int) (place, int) {
	p, e := w.locate(from, s, exist)
	switch {
	case e != 0:
		return p, e
	case p.num != 0:
		return p, exist
	case kind == 1 && p.must:
		return p, notdir
	case w.nodes[p.dir].links == 0:
		return p, noent
	}
	return p, 0
}

func (w *world) make(from int, s string, kind int) (int, int) {
	p, e := w.fresh(from, s, kind)
	if e != 0 {
		return 0, e
	}
	num := 1
	for w.nodes[num] != nil {
		num++
	}
	if num > w.g.Inodes || !w.fits(kind+w.nodes[p.dir].growth()) { // a directory has a block, too
		return 0, nospc
	}
	n := &inode{kind: kind, links: 1, time: w.now, blocks: map[int]*[128]byte{}}
	if kind == 2 {
		n.slots = make([]entry, 4)
		n.slots[0] = entry{p.dir, ".."}
	}
	w.nodes[num] = n
	w.insert(p.dir, p.name, num)
	return num, 0
}

func (w *world) link(from int, old, s string) int {
	num, e := w.walk(from, old)
	if e != 0 {
		return e
	}
	if w.nodes[num].kind == 2 {
		return isdir
	}
	p, e := w.fresh(from, s, 1)
	switch {
	case e != 0:
		return e
	case w.nodes[num].links == 100:
		return mlink
	case !w.fits(w.nodes[p.dir].growth()):
		return nospc
	}
	w.insert(p.dir, p.name, num)
	w.nodes[num].links++
	return 0
}

// unname: it has a name less. (Who buries it is the machine, which knows whether it is open.)
func (w *world) unname(num int) {
	n := w.nodes[num]
	n.links--
	if n.kind == 2 {
		n.slots = nil
	}
}

func (w *world) empty(num int) bool {
	for _, x := range w.nodes[num].slots {
		if x.num != 0 && x.name != ".." {
			return false
		}
	}
	return true
}

func (w *world) unlink(from int, s string, kind int) int {
	p, e := w.locate(from, s, busy)
	switch {
	case e != 0:
		return e
	case p.num == 0:
		return noent
	case kind == 1 && w.nodes[p.num].kind == 2:
		return isdir
	case kind == 1 && p.must, kind == 2 && w.nodes[p.num].kind == 1:
		return notdir
	case kind == 2 && !w.empty(p.num):
		return notempty
	}
	w.remove(p.dir, p.name)
	w.unname(p.num)
	return 0
}

// below: is a directory another one, or below it?
func (w *world) below(num, top int) bool {
	for ; num != top; num = w.nodes[num].find("..") {
		if num == 1 || num == 0 || w.nodes[num].find("..") == 0 {
			return false
		}
	}
	return true
}

func (w *world) rename(from int, old, s string) int {
	x, e := w.locate(from, old, busy)
	if e != 0 {
		return e
	}
	if x.num == 0 {
		return noent
	}
	moved := w.nodes[x.num]
	if moved.kind == 1 && x.must {
		return notdir
	}
	y, e := w.locate(from, s, busy)
	if e != 0 {
		return e
	}
	switch {
	case moved.kind == 2 && w.below(y.dir, x.num):
		return inval
	case w.nodes[y.dir].links == 0:
		return noent
	case moved.kind == 1 && y.must:
		return notdir
	case y.num == x.num:
		return 0
	case y.num == 0 && !w.fits(w.nodes[y.dir].growth()):
		return nospc
	}
	if y.num != 0 {
		other := w.nodes[y.num]
		switch {
		case moved.kind == 2 && other.kind == 1:
			return notdir
		case moved.kind == 1 && other.kind == 2:
			return isdir
		case moved.kind == 2 && !w.empty(y.num):
			return notempty
		}
		d := w.nodes[y.dir]
		d.slots[slices.Index(d.slots, entry{y.num, y.name})].num = x.num
		d.time = w.now
		w.unname(y.num)
	} else {
		w.insert(y.dir, y.name, x.num)
	}
	w.remove(x.dir, x.name)
	if moved.kind == 2 && x.dir != y.dir {
		moved.slots[slices.Index(moved.slots, entry{x.dir, ".."})].num = y.dir
		moved.time = w.now
	}
	return 0
}

func (w *world) read(num, at, size int) ([]byte, int) {
	n := w.nodes[num]
	if n.kind == 2 {
		return nil, isdir
	}
	var b []byte
	for ; at < n.size && len(b) < size; at++ {
		c := byte(0)
		if x := n.blocks[at/128]; x != nil {
			c = x[at%128]
		}
		b = append(b, c)
	}
	return b, 0
}

// write: byte by byte, till a block has no room.
func (w *world) write(num, at int, b []byte) (int, int) {
	n := w.nodes[num]
	if len(b) > 0 && at >= maxSize {
		return 0, fbig
	}
	done := 0
	for _, c := range b {
		i := (at + done) / 128
		if at+done == maxSize {
			break
		}
		if n.blocks[i] == nil {
			if !w.fits(cost(append(n.indexes(), i)) - cost(n.indexes())) {
				break
			}
			n.blocks[i] = &[128]byte{}
		}
		n.blocks[i][(at+done)%128] = c
		done++
		n.size = max(n.size, at+done)
		n.time = w.now
	}
	if done == 0 && len(b) > 0 {
		return 0, nospc
	}
	return done, 0
}

func (w *world) truncate(num, size int) int {
	n := w.nodes[num]
	if size > maxSize {
		return fbig
	}
	for i, b := range n.blocks {
		for at := range b {
			if i*128+at >= size {
				b[at] = 0
			}
		}
		if i*128 >= size {
			delete(n.blocks, i)
		}
	}
	n.size, n.time = size, w.now
	return 0
}

func (w *world) sizeOf(num int) int {
	n := w.nodes[num]
	if n.kind == 2 {
		return len(n.slots) * 32
	}
	return n.size
}

// path of a directory; false: it has none.
func (w *world) path(num int) (string, bool) {
	s := ""
	for parts := 0; num != 1; parts++ {
		up := w.nodes[num].find("..")
		if up == 0 || parts == 32 {
			return "", false
		}
		i := slices.IndexFunc(w.nodes[up].slots, func(x entry) bool { return x.num == num && x.name != ".." })
		if i < 0 {
			return "", false
		}
		s = "/" + w.nodes[up].slots[i].name + s
		num = up
	}
	if s == "" {
		s = "/"
	}
	return s, true
}

// dump: lines of all that Root leads to.
func (w *world) dump() []string {
	var list []string
	first := map[int]string{}
	var below func(dir int, at string)
	below = func(dir int, at string) {
		var entries []entry
		for _, x := range w.nodes[dir].slots {
			if x.num != 0 && x.name != ".." {
				entries = append(entries, x)
			}
		}
		sort.Slice(entries, func(i, j int) bool { return entries[i].name < entries[j].name })
		for _, x := range entries {
			name := at + "/" + x.name
			was, seen := first[x.num]
			switch {
			case w.nodes[x.num].kind == 2:
				list = append(list, "d "+escape(name))
				below(x.num, name)
			case seen:
				list = append(list, "l "+escape(name)+" "+escape(was))
			default:
				first[x.num] = name
				b, _ := w.read(x.num, 0, maxSize)
				list = append(list, "f "+escape(name)+" "+escape(string(b)))
			}
		}
	}
	below(1, "")
	return list
}

// escape: as layer 23 tells it.
func escape(s string) string {
	if s == "" {
		return "%"
	}
	var b strings.Builder
	for _, c := range []byte(s) {
		if c >= 'a' && c <= 'z' || c >= 'A' && c <= 'Z' || c >= '0' && c <= '9' || strings.IndexByte("./_-", c) >= 0 {
			b.WriteByte(c)
		} else {
			fmt.Fprintf(&b, "%%%02X", c)
		}
	}
	return b.String()
}
