package usage

import (
	"math"

	"drumlin/pick"
)

// Part: of a room.
func Part(live, room int) float64 {
	return float64(live) / float64(room)
}

// Rank: the least first.
func Rank(list ...float64) []int {
	places := pick.Places(list, func(float64) bool { return true })
	return sorted(places, func(a, b int) bool { return less(list[a], list[b]) })
}

// less: where each number is less than what is none.
func less(x, y float64) bool {
	return x < y || math.IsNaN(y) && !math.IsNaN(x)
}

// sorted: in their order; of alike ones the first first.
func sorted(list []int, before func(a, b int) bool) []int {
	if len(list) < 2 {
		return list
	}
	half := len(list) / 2
	return merged(sorted(list[:half], before), sorted(list[half:], before), before)
}

// merged: two lists that are in their order as one. Of the second one just those come ahead of a number that are before it: so alike ones stay as they were.
func merged(first, second []int, before func(a, b int) bool) []int {
	all := make([]int, 0, len(first)+len(second))
next:
	for _, a := range first {
		for i, b := range second {
			if !before(b, a) {
				all = append(append(all, second[:i]...), a)
				second = second[i:]
				continue next
			}
		}
		all = append(append(all, second...), a)
		second = nil
	}
	return append(all, second...)
}
