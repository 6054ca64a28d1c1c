package trace_test

import (
	"math"
	"math/big"
	"math/rand"
	"strings"
	"testing"

	"drumlin/codec"
	"drumlin/trace"
	"drumlin/usage"
)

// P25.3: the sign of each segment.
func TestUses(t *testing.T) {
	dirty := func(live ...int) []codec.Use {
		var list []codec.Use
		for _, n := range live {
			list = append(list, codec.Use{Live: n, State: usage.Dirty, Age: 7})
		}
		return list
	}
	for _, x := range []struct {
		uses []codec.Use
		room int
		want string
	}{
		{nil, 16, ""},
		{[]codec.Use{}, 0, ""},
		{[]codec.Use{{State: usage.Clean}, {State: usage.Open}, {State: usage.Held}, {State: usage.Dirty}}, 16, ".oh0"},
		{[]codec.Use{{Live: 9, State: usage.Clean}, {Live: 9, State: usage.Open, Age: 9}, {Live: -9, State: usage.Held}}, 9, ".oh"},
		{dirty(0, 1, 2, 3, 4, 5, 6, 7, 8, 9, 10), 9, "01234567899"},
		{dirty(0, 1, 2, 7, 8, 15, 16, 17), 16, "00134899"},
		{dirty(1, 2, 3), 3, "369"},
		{dirty(0, 1, 2), 1, "099"},
		{dirty(-1, 0, 1, 2), 0, "0099"},
		{dirty(-1, 0, 1, 2), -16, "0099"},
		{dirty(-1, 0, 1, math.MaxInt), math.MinInt, "0099"},
		{dirty(-1, math.MinInt), 16, "00"},
		{dirty(math.MaxInt, math.MaxInt-1, math.MaxInt/9, math.MaxInt/9-1, math.MaxInt/2, 1, 0, -1), math.MaxInt, "98004000"},
		{dirty(math.MaxInt, math.MaxInt/9+1), math.MaxInt - 1, "91"},
		{dirty(455, 456, 4095, 4096), 4096, "0189"},
	} {
		if s := trace.Uses(x.uses, x.room); s != x.want {
			t.Errorf("P25.3: Uses of %v, %d = %q, want %q", x.uses, x.room, s, x.want)
		}
	}
	for _, state := range []int{-1, 4, math.MinInt, math.MaxInt} {
		if s := trace.Uses([]codec.Use{{State: usage.Open}, {Live: 9, State: state}, {State: usage.Held}}, 16); len(s) != 3 || s[0] != 'o' || s[2] != 'h' {
			t.Errorf("P25.3: Uses with the state %d = %q", state, s)
		}
	}
}

// P25.3: any numbers, reckoned without bounds.
func TestUsesAny(t *testing.T) {
	r := rand.New(rand.NewSource(253))
	number := func() int {
		list := []int{r.Intn(20), r.Intn(4200), -r.Intn(20), int(r.Uint64()), int(r.Uint64() >> 1), math.MaxInt - r.Intn(9), math.MaxInt / (1 + r.Intn(12)), math.MinInt + r.Intn(3)}
		return list[r.Intn(len(list))]
	}
	digits := map[string]int{}
	for range 100000 {
		live, room := number(), number()
		n := new(big.Int).Mul(big.NewInt(9), big.NewInt(int64(live)))
		n.Div(n, big.NewInt(int64(max(room, 1)))) // rounded down, as what it is divided by is above 0
		want := "0"
		switch {
		case n.Cmp(big.NewInt(9)) > 0:
			want = "9"
		case n.Sign() > 0:
			want = n.String()
		}
		if s := trace.Uses([]codec.Use{{Live: live, State: usage.Dirty}}, room); s != want {
			t.Fatalf("P25.3: of %d live in %d: %q, want %q", live, room, s, want)
		}
		digits[want]++
	}
	for _, c := range strings.Split("0123456789", "") {
		if digits[c] < 500 {
			t.Errorf("P25.3: %d times %s: the test is in vain", digits[c], c)
		}
	}
}
