package fd

import (
	"slices"

	"drumlin/api"
	"drumlin/pick"
)

// none: what a fd is that isn't known. No open file has this number.
const none = -1

// Set: what one process knows: of each fd which open file it is.
type Set struct {
	ids []int
}

// NewSet: so many.
func NewSet(most int) *Set {
	return &Set{ids: slices.Repeat([]int{none}, upTo(api.MaxFds, most))}
}

func (s *Set) has(fd int) bool {
	return fd >= 0 && fd < len(s.ids)
}

// Get: which open file a fd is.
func (s *Set) Get(fd int) (int, api.Errno) {
	if !s.has(fd) || s.ids[fd] == none {
		return 0, api.ErrBadf
	}
	return s.ids[fd], api.OK
}

// Put: the least fd.
func (s *Set) Put(id int) (int, api.Errno) {
	if id < 0 {
		return 0, api.ErrInval
	}
	fd := slices.Index(s.ids, none)
	if fd < 0 {
		return 0, api.ErrMfile
	}
	s.ids[fd] = id
	return fd, api.OK
}

// Take: it isn't known any more.
func (s *Set) Take(fd int) (int, api.Errno) {
	id, e := s.Get(fd)
	if e == api.OK {
		s.ids[fd] = none
	}
	return id, e
}

// At: this fd.
func (s *Set) At(fd, id int) (int, api.Errno) {
	if !s.has(fd) {
		return 0, api.ErrBadf
	}
	if id < 0 {
		return 0, api.ErrInval
	}
	was := s.ids[fd]
	s.ids[fd] = id
	return was, api.OK
}

// All: all open files, one for each fd that is known: an open file that two fds are stands there twice.
func (s *Set) All() []int {
	all := s.Known()
	for i, fd := range all {
		all[i] = s.ids[fd]
	}
	return all
}

// Known: all fds.
func (s *Set) Known() []int {
	return pick.Places(s.ids, func(id int) bool { return id != none })
}

// Clone: another one like it.
func (s *Set) Clone() *Set {
	return &Set{ids: slices.Clone(s.ids)}
}
