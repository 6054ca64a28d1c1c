package fs

import (
	"slices"

	"drumlin/api"
	"drumlin/dirent"
	"drumlin/tree"
)

// What isn't as it should be.
const (
	Links = iota + 1
	Lost
	Dangling
	Bytes
	Parent
	Twice
)

// Fault: of a number.
type Fault struct {
	Num, What int
}

// Check: what isn't as it should be.
func Check(t *tree.Tree) []Fault {
	s := look(t)
	named, led, again := s.named(), map[int]int{}, s.again()
	s.lead(api.Root, led)
	var faults []Fault
	for _, num := range s.nums {
		tell := func(what int, so bool) {
			if so {
				faults = append(faults, Fault{num, what})
			}
		}
		x := s.parts[num]
		tell(Links, x.Links != named[num])
		if x.Kind == api.Dir && x.Links > 0 {
			tell(Lost, x.sound && (led[num] == 0 || x.above == 0))
			tell(Dangling, x.names(s.dangles))
			tell(Bytes, !x.sound)
			tell(Parent, s.stray(x))
			tell(Twice, again[num] > 0)
		}
	}
	return faults
}

// part: what a number is.
type part struct {
	tree.Stat
	sound   bool           // its bytes could be read, and are a directory's; else it has no entries
	entries []dirent.Entry // but ".."
	above   int            // what its ".." names; 0: it has none
}

// names: is there an entry whose number is so?
func (x part) names(so func(num int) bool) bool {
	return slices.ContainsFunc(x.entries, func(y dirent.Entry) bool { return so(y.Num) })
}

// survey: what all numbers are that aren't free.
type survey struct {
	nums  []int // rising
	parts map[int]part
}

// look: at a tree.
func look(t *tree.Tree) survey {
	s := survey{parts: map[int]part{}}
	for num := range api.MaxInodes + 1 {
		stat, e := t.Stat(num)
		if e != api.OK {
			continue
		}
		x := part{Stat: stat}
		list, e := t.List(num)
		x.sound = e == api.OK
		x.entries, x.above = parted(list)
		s.nums = append(s.nums, num)
		s.parts[num] = x
	}
	return s
}

// named: how many links each number should have.
func (s survey) named() map[int]int {
	counts := map[int]int{api.Root: 1}
	for _, num := range s.nums {
		for _, y := range s.parts[num].entries {
			counts[y.Num]++
		}
	}
	return counts
}

// lead: a number, and all that it leads to, is led to.
func (s survey) lead(num int, led map[int]int) {
	if led[num] > 0 {
		return
	}
	led[num]++
	for _, y := range s.parts[num].entries {
		s.lead(y.Num, led)
	}
}

// again: the directories that name one that was named already.
func (s survey) again() map[int]int {
	named, again := map[int]int{}, map[int]int{}
	for _, num := range s.nums {
		x := s.parts[num]
		if x.Links == 0 {
			continue
		}
		for _, y := range x.entries {
			if s.parts[y.Num].Kind != api.Dir {
				continue
			}
			if named[y.Num] > 0 {
				again[num]++
			}
			named[y.Num]++
		}
	}
	return again
}

// dangles: is a number free, or none?
func (s survey) dangles(num int) bool {
	_, ok := s.parts[num]
	return !ok
}

// stray: does ".." of a directory name what it shouldn't?
func (s survey) stray(x part) bool {
	switch {
	case x.above == 0:
		return false
	case x.Num == api.Root:
		return x.above != api.Root
	}
	return !s.parts[x.above].names(func(num int) bool { return num == x.Num })
}
