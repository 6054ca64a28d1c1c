package pick_test

import (
	"slices"
	"testing"

	"drumlin/pick"
)

func TestPlaces(t *testing.T) {
	list := []string{"a", "bb", "", "c", "dd"}
	for size, want := range [][]int{{2}, {0, 3}, {1, 4}, nil} {
		got := pick.Places(list, func(s string) bool { return len(s) == size })
		if !slices.Equal(got, want) {
			t.Errorf("of the length %d: %v; want %v", size, got, want)
		}
	}
	if got := pick.Places(nil, func(int) bool { return true }); got != nil {
		t.Errorf("of none: %v", got)
	}
}

// What is found is new memory, and the list stays as it was.
func TestKept(t *testing.T) {
	list := []int{5, 6, 7}
	all := func(int) bool { return true }
	first := pick.Places(list, all)
	first[0] = 9
	if second := pick.Places(list, all); !slices.Equal(second, []int{0, 1, 2}) || !slices.Equal(list, []int{5, 6, 7}) {
		t.Errorf("%v of %v", second, list)
	}
}
