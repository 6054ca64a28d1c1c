package dir

import (
	"slices"

	"drumlin/api"
	"drumlin/dirent"
	"drumlin/vol"
)

// block: of a directory.
type block = [4]dirent.Entry

// spot: where an entry stands, in a list of blocks.
type spot struct {
	block, entry int
}

// size: how many bytes a directory has. The errors of the number are those of this.
func size(v *vol.Vol, num int) (int, api.Errno) {
	n, e := v.Size(num)
	if e != api.OK {
		return 0, e
	}
	if slot, _ := v.Slot(num); slot.Kind != api.Dir {
		return 0, api.ErrNotdir
	}
	return n, api.OK
}

// load: all blocks of a directory. The errors of the number, then those of its bytes.
func load(v *vol.Vol, num int) ([]block, api.Errno) {
	n, e := size(v, num)
	if e != api.OK {
		return nil, e
	}
	b, e := v.Read(num, 0, n)
	if e != api.OK {
		return nil, e
	}
	return parse(b)
}

// parse: the blocks of a directory's bytes.
func parse(b []byte) ([]block, api.Errno) {
	if len(b)%api.SectorSize != 0 {
		return nil, api.ErrForm
	}
	var blocks []block
	for s := range slices.Chunk(b, api.SectorSize) {
		x, e := dirent.Read(api.Sector(s))
		if e != api.OK {
			return nil, e
		}
		blocks = append(blocks, x)
	}
	if filled(blocks) != len(blocks) {
		return nil, api.ErrForm
	}
	return blocks, api.OK
}

// filled: how many blocks there are up to the last one that has an entry.
func filled(blocks []block) int {
	n := len(blocks)
	for n > 0 && dirent.Count(blocks[n-1]) == 0 {
		n--
	}
	return n
}

// first: where the first entry stands that is found in its block.
func first(blocks []block, find func(x block) int) (spot, bool) {
	for i, x := range blocks {
		if k := find(x); k >= 0 {
			return spot{i, k}, true
		}
	}
	return spot{}, false
}

// named: what finds the entry of a name.
func named(name string) func(x block) int {
	return func(x block) int { return dirent.Find(x, name) }
}

// put: this is one of the blocks of a directory then. (It is written whole, so that nothing is read.)
func put(v *vol.Vol, num, index int, x block) api.Errno {
	s, e := dirent.Write(x)
	if e != api.OK {
		return e
	}
	return v.Write(num, index*api.SectorSize, s[:])
}
