package vol

import (
	"slices"

	"drumlin/api"
	"drumlin/codec"
	"drumlin/slog"
	"drumlin/usage"
)

// Clean: what is live in some segments is written elsewhere. What is empty then is made Clean at once, so that the next best one isn't the same one again.
func (v *Vol) Clean(segs ...int) (int, api.Errno) {
	if v.broken {
		return 0, api.ErrIo
	}
	if slices.ContainsFunc(segs, func(seg int) bool { return seg < 0 || seg >= v.geom.Segs }) {
		return 0, api.ErrInval
	}
	if e := v.refusal(); e != api.OK {
		return 0, e
	}
	moved, e := v.move(v.chosen(segs)...)
	if e == api.OK {
		e = v.flush()
	}
	if e == api.OK && v.idle() {
		e = v.checkpoint()
	}
	if v.fail(e) != api.OK {
		return 0, e
	}
	return moved, api.OK
}

// chosen: the Dirty ones of these segments, each once; none named: the best one.
func (v *Vol) chosen(segs []int) []int {
	best := v.last.Table.Order(v.time)
	if len(segs) == 0 {
		return best[:min(1, len(best))]
	}
	return slices.DeleteFunc(best, func(seg int) bool { return !slices.Contains(segs, seg) })
}

// move: what is live in these segments is to be written again: how many blocks that is.
// Which ones are live is asked ahead: as one is moved, those that it hangs on are, too.
func (v *Vol) move(segs ...int) (int, api.Errno) {
	list, e := v.live(segs...)
	if e != api.OK {
		return 0, e
	}
	for _, x := range list {
		if _, e := v.files[int(x.Entry.Num)].Move(x.Entry, x.At, v.disk.Read); e != api.OK {
			return 0, e
		}
	}
	return len(list), api.OK
}

// live: what is live in these segments, as their summaries tell what every block is. (A group without one was never written; of an old one nothing is live.)
func (v *Vol) live(segs ...int) ([]slog.Found, api.Errno) {
	var list []slog.Found
	for _, seg := range segs {
		for group := range v.geom.Groups {
			s, e := v.disk.Read(v.geom.Summary(seg, group))
			if e != api.OK {
				return nil, e
			}
			x, _ := codec.ReadSummary(s)
			for slot, entry := range x.Entries {
				at := v.geom.Block(seg, group, slot)
				file, ok := v.files[int(entry.Num)]
				if ok && file.Live(entry, at) {
					list = append(list, slog.Found{Entry: entry, At: at})
				}
			}
		}
	}
	return list, api.OK
}

// crowded: the segments that must be moved with a draft, the best first, so that behind it as many may be made Clean as all that may live needs, with its records.
func (v *Vol) crowded(x *draft) []int {
	behind, _ := usage.Load(v.geom.Cap(), x.state.Table.Uses()...)
	behind.Release()
	list := slices.DeleteFunc(behind.Order(v.time), func(seg int) bool {
		use, _ := v.last.Table.Get(seg)
		return use.State != usage.Dirty
	})
	return list[:min(max(0, v.need()-behind.Clean()), len(list))]
}

// need: how many segments must be Clean, so that all that may live can be written once more, with all records.
func (v *Vol) need() int {
	chunks := (v.geom.Chunks() + v.geom.Cap() - 1) / v.geom.Cap()
	return v.geom.Most() + chunks + 1
}
