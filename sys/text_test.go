package sys_test

import (
	"math"
	"math/rand"
	"slices"
	"strings"
	"testing"

	"drumlin/api"
	"drumlin/sys"
)

// P23.2: calls as text, and back.
func TestText(t *testing.T) {
	for want, c := range map[string]sys.Call{
		"open a%20b 9":                      {Op: sys.Open, S: "a b", A: 9},
		"open % 0":                          {Op: sys.Open},
		"fork":                              {Op: sys.Fork},
		"exit -9223372036854775808":         {Op: sys.Exit, A: math.MinInt},
		"exit 9223372036854775807":          {Op: sys.Exit, A: math.MaxInt},
		"read -1 0":                         {Op: sys.Read, A: -1},
		"read 0 -1":                         {Op: sys.Read, B: -1},
		"write 3 %":                         {Op: sys.Write, A: 3},
		"write 3 %00%FFx%0A":                {Op: sys.Write, A: 3, Data: []byte("\x00\xffx\n")},
		"rename % %":                        {Op: sys.Rename},
		"rename %25 /a/b.c_d-E":             {Op: sys.Rename, S: "%", T: "/a/b.c_d-E"},
		"link %C3%A4 ..":                    {Op: sys.Link, S: "ä", T: ".."},
		"truncate 1 136192":                 {Op: sys.Truncate, A: 1, B: 136192},
		"dup2 15 -3":                        {Op: sys.Dup2, A: 15, B: -3},
		"time":                              {Op: sys.Time},
		"stat " + strings.Repeat("a", 5000): {Op: sys.Stat, S: strings.Repeat("a", 5000)},
	} {
		if s := c.Text(); s != want {
			t.Errorf("P23.2: the text of %v is %q, want %q", c, s, want)
		}
		if x, e := sys.Parse(want); e != api.OK || !same(x, c) {
			t.Errorf("P23.2: Parse(%q) = %v, %v", want, x, e)
		}
	}
	for _, op := range others {
		if s := full(op).Text(); s != "" {
			t.Errorf("P23.2: the text of %d is %q", op, s)
		}
	}
	for _, x := range table {
		c := full(x.op)
		if s := c.Text(); s != plain(c).Text() || !strings.HasPrefix(s, x.name) || strings.Count(s, " ") != len(strings.Fields(x.has)) {
			t.Errorf("P23.2: the text of %v is %q", c, s)
		}
	}
}

// P23.2: what is no text of a call.
func TestParseRefuses(t *testing.T) {
	for _, s := range []string{
		"", " ", "fork ", " fork", "fork  ", "fork\n", "\nfork", "fork 1", "fork %", "Fork", "FORK", "for", "forks", "fork\x00", "ok", "error 4", "%",
		"exit", "exit ", "exit  1", "exit 1 ", "exit 1 1", "exit 01", "exit -0", "exit 00", "exit +1", "exit 1x", "exit x", "exit %", "exit --1", "exit 1_0", "exit 0x1", "exit 1.0", "exit 1e1", "exit - 1", "exit\t1",
		"exit 9223372036854775808", "exit -9223372036854775809", "exit 99999999999999999999999999", "exit %31", "exit ١",
		"open a", "open 9", "open 9 a", "open  9", "open a 9 ", "open a  9", "open a 9 9", "open a %", "open a 09", "open %41 1", "open a%2 1", "open a% 1", "open %% 1", "open a\x00 1", "open é 1", "open %2f 1", "open %2F 1", "open a\tb 1",
		"read 1", "read 1 2 3", "read 1 %", "read % 1", "write 1", "write 1 ", "write 1 a b", "write 1 a%", "write a 1 b", "link a", "link a ", "link a b c", "link  a", "rename a", "sync 1", "dup2 1", "time 0", "getpid %",
		strings.Repeat(" ", 100000), "fork" + strings.Repeat(" ", 100000), "open a 1" + strings.Repeat(" 1", 50000),
	} {
		if c, e := sys.Parse(s); e != api.ErrForm || !same(c, sys.Call{}) || c.Data != nil {
			t.Errorf("P23.2: Parse(%.40q) = %v, %v", s, c, e)
		}
	}
}

// numbers are at the edges, and others.
func number(r *rand.Rand) int {
	list := []int{0, 1, -1, 9, 10, -10, 99, 100, 4096, math.MaxInt, math.MinInt, r.Intn(64), -r.Intn(1000000), int(r.Uint64())}
	return list[r.Intn(len(list))]
}

// some: bytes, mostly few, of all kinds.
func some(r *rand.Rand) []byte {
	b := make([]byte, r.Intn(1+r.Intn(12)))
	for i := range b {
		b[i] = byte(r.Intn(256))
		if r.Intn(2) == 0 {
			b[i] = "aZ09./_-% \n\x00"[r.Intn(12)]
		}
	}
	return b
}

// P23.2: each undoes the other; a text that is nearly one is one, or isn't.
func TestTextAndBack(t *testing.T) {
	r := rand.New(rand.NewSource(2))
	seen, good := map[string]sys.Call{}, 0
	for range 30000 {
		c := plain(sys.Call{Op: 1 + r.Intn(29), A: number(r), B: number(r), S: string(some(r)), T: string(some(r)), Data: some(r)})
		s := c.Text()
		if x, e := sys.Parse(s); e != api.OK || !same(x, c) {
			t.Fatalf("P23.2: Parse(%q) = %v, %v; want %v", s, x, e, c)
		}
		if x, ok := seen[s]; ok && !same(x, c) {
			t.Fatalf("P23.2: %v and %v have the text %q", x, c, s)
		}
		seen[s] = c
		for range 3 {
			near := spoiled(r, s)
			x, e := sys.Parse(near)
			if e == api.OK {
				good++
			}
			if e == api.OK && (x.Text() != near || !same(x, plain(x))) || e != api.OK && (e != api.ErrForm || !same(x, sys.Call{})) {
				t.Fatalf("P23.2: Parse(%q) = %v, %v", near, x, e)
			}
		}
	}
	if good < 1000 {
		t.Errorf("P23.2: %d texts were read: the test is in vain", good)
	}
}

// spoiled: a text of which a byte is gone, another one, or one more.
func spoiled(r *rand.Rand, s string) string {
	b := []byte(s)
	i, c := r.Intn(len(b)), "0123456789ABCDEFabcdef%- .x\x00\xff"[r.Intn(29)]
	switch r.Intn(3) {
	case 0:
		return string(slices.Delete(b, i, i+1))
	case 1:
		b[i] = c
		return string(b)
	}
	return string(slices.Insert(b, i, c))
}

// asItIs are the bytes that stand for themselves.
const asItIs = "ABCDEFGHIJKLMNOPQRSTUVWXYZabcdefghijklmnopqrstuvwxyz0123456789./_-"

// P23.3: each byte alone, and between others.
func TestEscape(t *testing.T) {
	const hex = "0123456789ABCDEF"
	for i := range 256 {
		want := "%" + hex[i/16:i/16+1] + hex[i%16:i%16+1]
		if strings.IndexByte(asItIs, byte(i)) >= 0 {
			want = string(rune(i))
		}
		if s := sys.Escape([]byte{byte(i)}); s != want {
			t.Errorf("P23.3: Escape(%d) = %q, want %q", i, s, want)
		}
		if s := sys.Escape([]byte{'a', byte(i), '-', byte(i)}); s != "a"+want+"-"+want {
			t.Errorf("P23.3: Escape of %d between others = %q", i, s)
		}
		if b, ok := sys.Unescape("x" + want); !ok || string(b) != "x"+string([]byte{byte(i)}) {
			t.Errorf("P23.3: Unescape(x%s) = %q, %v", want, b, ok)
		}
	}
	for _, b := range [][]byte{nil, {}} {
		if s := sys.Escape(b); s != "%" {
			t.Errorf("P23.3: Escape of none = %q", s)
		}
	}
	if b, ok := sys.Unescape("%"); !ok || len(b) != 0 {
		t.Errorf("P23.3: Unescape(%%) = %q, %v", b, ok)
	}
}

// P23.3: all short texts of some bytes: those are read that Escape makes of some bytes, and no others.
func TestUnescapeAll(t *testing.T) {
	const alphabet = "%0124aFfG -\x00"
	made := map[string]string{}
	var list []string
	for n := range 3 { // each text of up to five bytes comes of at most five, of which none is % as it is
		list = append(list, texts("%01234aFfGo -\x00\x01\x02\x04\x10\x11\x12\x14\x20\x21\x22\x24\x40\x41\x42\x44\x0f\xf0\x1f\xf1\x2f\xf2\x4f\xf4\xff", n)...)
	}
	list = append(list, texts("0124aFfG-", 3)...)
	list = append(list, texts("0124aFfG-", 4)...)
	for _, b := range texts("\x00\x01\x02\x04\x10\x11\x12\x14\x20\x21\x22\x24\x40\x41\x42\x44\x0f\xf0\x1f\xf1\x2f\xf2\x4f\xf4\xff", 1) {
		for _, x := range texts("0124aFfG-", 2) { // one that is escaped, among two that aren't
			list = append(list, b+x, x+b, x[:1]+b+x[1:])
		}
	}
	for _, b := range list {
		made[sys.Escape([]byte(b))] = b
	}
	good := 0
	for n := range 5 {
		for _, s := range texts(alphabet, n) {
			want, ok := made[s]
			b, got := sys.Unescape(s)
			if got != ok || string(b) != want || !got && b != nil {
				t.Fatalf("P23.3: Unescape(%q) = %q, %v; want %q, %v", s, b, got, want, ok)
			}
			if got {
				good++
			}
		}
	}
	if good < 1000 {
		t.Errorf("P23.3: %d texts were read: the test is in vain", good)
	}
}

// texts: all of so many bytes.
func texts(alphabet string, n int) []string {
	if n == 0 {
		return []string{""}
	}
	var list []string
	for _, s := range texts(alphabet, n-1) {
		for i := range len(alphabet) {
			list = append(list, s+alphabet[i:i+1])
		}
	}
	return list
}

// P23.3: any bytes, of any length.
func TestEscapeAndBack(t *testing.T) {
	r := rand.New(rand.NewSource(3))
	for i := range 5000 {
		b := some(r)
		if i%100 == 0 {
			b = make([]byte, r.Intn(9000))
			r.Read(b)
		}
		was := slices.Clone(b)
		s := sys.Escape(b)
		back, ok := sys.Unescape(s)
		if !ok || !slices.Equal(back, was) || !slices.Equal(b, was) {
			t.Fatalf("P23.3: Unescape(%q) = %q, %v; want %q", s, back, ok, was)
		}
		near := spoiled(r, s)
		if back, ok := sys.Unescape(near); ok && sys.Escape(back) != near || !ok && back != nil {
			t.Fatalf("P23.3: Unescape(%q) = %q, %v", near, back, ok)
		}
	}
}

// P23.4: answers as text.
func TestAnswer(t *testing.T) {
	for want, a := range map[string]sys.Answer{
		"ok":            {},
		"ok 3":          {N: 3},
		"ok -3":         {N: -3},
		"ok 0 2":        {M: 2},
		"ok 1 -2":       {N: 1, M: -2},
		"ok 0 0 x":      {Data: []byte("x")},
		"ok 0 0 0":      {Data: []byte("0")},
		"ok 1 2 %00%25": {N: 1, M: 2, Data: []byte("\x00%")},
		"error 4":       {Err: api.ErrNoent},
		"error 22 1":    {Err: api.ErrBusy, N: 1},
		"error -1 0 5":  {Err: -1, M: 5},
		"error 4 0 0 a": {Err: 4, Data: []byte("a")},
	} {
		if s := a.Text(); s != want {
			t.Errorf("P23.4: the text of %v is %q, want %q", a, s, want)
		}
	}
	if s := (sys.Answer{Data: []byte{}}).Text(); s != "ok" {
		t.Errorf("P23.4: with an empty list: %q", s)
	}
}

// P23.4: unlike answers have unlike texts.
func TestAnswersUnlike(t *testing.T) {
	seen, list := map[string]sys.Answer{}, []int{0, 1, -1, 10, 4, math.MaxInt, math.MinInt}
	for _, e := range list {
		for _, n := range list {
			for _, m := range list {
				for _, data := range []string{"", "0", "1", "-1", "%", " ", "1 1", "ok", "\x00", "\x001"} {
					a := sys.Answer{Err: api.Errno(e), N: n, M: m, Data: []byte(data)}
					s := a.Text()
					if x, ok := seen[s]; ok {
						t.Fatalf("P23.4: %v and %v have the text %q", x, a, s)
					}
					seen[s] = a
				}
			}
		}
	}
}

// P1: any number, any text.
func TestAny(t *testing.T) {
	list := []int{math.MinInt, math.MinInt + 1, -2, -1, 0, 1, 2, 7, 9, 10, 29, 30, 63, 64, 4096, 4097, math.MaxInt - 1, math.MaxInt}
	for _, op := range list {
		for _, n := range list {
			for _, s := range []string{"", "a", "\xff\xfe", strings.Repeat("%", 70000)} {
				c := sys.Call{Op: op, A: n, B: n, S: s, T: s, Data: []byte(s)}
				if e := c.Check(); e != api.OK && e != api.ErrInval && e != api.ErrFault {
					t.Fatalf("P1: Check(%v) = %v", c, e)
				}
				if !same(c.Plain(), plain(c)) || c.Text() != plain(c).Text() {
					t.Fatalf("P1: %v", c)
				}
				sys.Parse(s)
				sys.Unescape(s)
			}
		}
	}
}
