package trace

import (
	"math/bits"

	"drumlin/codec"
	"drumlin/usage"
)

// mostDigit: the sign of a segment that is filled.
const mostDigit = 9

// Uses: each segment a sign.
func Uses(uses []codec.Use, room int) string {
	var signs []byte
	for _, u := range uses {
		signs = append(signs, sign(u, room))
	}
	return string(signs)
}

// sign: of a segment. (Of a state that is none as of one that is clean.)
func sign(u codec.Use, room int) byte {
	switch u.State {
	case usage.Dirty:
		return '0' + filled(u.Live, room)
	case usage.Open:
		return 'o'
	case usage.Held:
		return 'h'
	}
	return '.'
}

// filled: how much of its room is live, as a digit. The product may have no room in one word.
func filled(live, room int) byte {
	room = max(room, 1)
	live = min(max(live, 0), room)
	high, low := bits.Mul64(mostDigit, uint64(live))
	n, _ := bits.Div64(high, low, uint64(room))
	return byte(n)
}
