// Package pick finds out of a list what is so: several layers ask their tables in this way.
package pick

// Places: those of a list's items that are so, rising.
func Places[T any](list []T, so func(x T) bool) []int {
	var places []int
	for i, x := range list {
		if so(x) {
			places = append(places, i)
		}
	}
	return places
}
