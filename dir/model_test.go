package dir_test

import (
	"math/rand"
	"slices"
	"testing"

	"drumlin/api"
	"drumlin/dir"
	"drumlin/dirent"
	"drumlin/vol"
)

// places is a directory as the document tells it: entries in their places, four a block; those that are none, too.
type places []dirent.Entry

func (p places) find(name string) int {
	return slices.IndexFunc(p, func(x dirent.Entry) bool { return x.Num != 0 && x.Name == name })
}

func (p places) list() []dirent.Entry {
	return slices.DeleteFunc(slices.Clone(p), func(x dirent.Entry) bool { return x.Num == 0 })
}

func (p *places) insert(name string, to int) api.Errno {
	if e := dirent.Good(name); e != api.OK {
		return e
	}
	if p.find(name) >= 0 {
		return api.ErrExist
	}
	at := slices.Index(*p, dirent.Entry{})
	if at < 0 {
		at = len(*p)
		*p = append(*p, make(places, 4)...)
	}
	(*p)[at] = dirent.Entry{Num: to, Name: name}
	return api.OK
}

func (p *places) remove(name string) (int, api.Errno) {
	at := p.find(name)
	if at < 0 {
		return 0, api.ErrNoent
	}
	was := (*p)[at].Num
	(*p)[at] = dirent.Entry{}
	for n := len(*p); n > 0 && len((*p)[n-4:].list()) == 0; n -= 4 {
		*p = (*p)[:n-4]
	}
	return was, api.OK
}

// P17.1 to P17.3: call by call a directory is what its model is, to the byte, and so it is behind flushes and mounts.
func TestModel(t *testing.T) {
	for seed := range int64(6) {
		d, v := format(t)
		r := rand.New(rand.NewSource(seed))
		dir.Start(v, 2, 1)
		v.Flush()
		p := places{{Num: 1, Name: ".."}, {}, {}, {}}
		names := []string{"..", ""}
		for i := range 8 + 40*int(seed) {
			names = append(names, string(rune('a'+i%26))+string(rune('a'+i/26)))
		}
		for step := range 1500 {
			name, to := names[r.Intn(len(names))], 1+r.Intn(200)
			bias := 2 + step/200%3 // at times it grows, at times it gets less
			switch k := r.Intn(10); {
			case k < 5-bias+2:
				if e, want := dir.Insert(v, 2, name, to), p.insert(name, to); e != want {
					t.Fatalf("P17.1: Insert(%q) = %v; want %v", name, e, want)
				}
			case k < 7:
				n, e := dir.Remove(v, 2, name)
				if want, f := p.remove(name); n != want || e != f {
					t.Fatalf("P17.1: Remove(%q) = %d, %v; want %d, %v", name, n, e, want, f)
				}
			case k == 7:
				n, e := dir.Replace(v, 2, name, to)
				want, f := 0, api.ErrNoent
				if at := p.find(name); at >= 0 {
					want, f = p[at].Num, api.OK
					p[at].Num = to
				}
				if n != want || e != f {
					t.Fatalf("P17.1: Replace(%q) = %d, %v; want %d, %v", name, n, e, want, f)
				}
			case k == 8 && step%9 == 0:
				dir.Start(v, 2, to)
				p = places{{Num: to, Name: ".."}, {}, {}, {}}
			case k == 9 && step%3 == 0:
				if v.Flush() != api.OK {
					t.Fatalf("no flush")
				}
				v, _ = vol.Mount(d)
			}
			same(t, v, p, name, names[step%len(names)])
		}
	}
}

// same: is the directory what its model is?
func same(t *testing.T, v *vol.Vol, p places, names ...string) {
	t.Helper()
	now := of(v)
	if now.bytes != string(laid(p...)) || now.time != 77 || len(now.indexes) != len(p)/2 {
		t.Fatalf("P17.2: bytes %q of blocks %q; want %q", now.bytes, now.indexes, laid(p...))
	}
	list, e := dir.List(v, 2)
	if e != api.OK || !slices.Equal(list, p.list()) {
		t.Fatalf("P17.1: List = %v, %v; want %v", list, e, p.list())
	}
	for _, name := range names {
		want, f := 0, api.ErrNoent
		if at := p.find(name); at >= 0 {
			want, f = p[at].Num, api.OK
		}
		if n, e := dir.Find(v, 2, name); n != want || e != f {
			t.Fatalf("P17.1: Find(%q) = %d, %v; want %d, %v", name, n, e, want, f)
		}
	}
	other := slices.ContainsFunc(p.list(), func(x dirent.Entry) bool { return x.Name != ".." })
	if ok, e := dir.Empty(v, 2); ok == other || e != api.OK {
		t.Fatalf("P17.3: Empty = %v, %v of %v", ok, e, p)
	}
	n, e := dir.Grows(v, 2)
	if e != api.OK || (n == 0) != slices.Contains(p, dirent.Entry{}) {
		t.Fatalf("P17.3: Grows = %d, %v of %v", n, e, p)
	}
}
