package trace

import (
	"drumlin/api"
	"drumlin/num"
	"drumlin/sys"
)

// The widths of what the Data of an answer have.
const (
	kindWidth  = 1
	linksWidth = 2
	timeWidth  = 4
	numWidth   = 2
	nameWidth  = 1
)

// Stat: what an answer has.
func Stat(a sys.Answer) (num, size, kind, links, time int, e api.Errno) {
	if a.Err != api.OK || len(a.Data) != kindWidth+linksWidth+timeWidth {
		return 0, 0, 0, 0, 0, api.ErrForm
	}
	kind = number(a.Data, 0, kindWidth)
	links = number(a.Data, kindWidth, linksWidth)
	time = number(a.Data, kindWidth+linksWidth, timeWidth)
	return a.N, a.M, kind, links, time, api.OK
}

// List: what an answer has.
func List(a sys.Answer) ([]string, []int, api.Errno) {
	const ahead = numWidth + nameWidth
	var names []string
	var nums []int
	for b := a.Data; len(b) > 0; {
		size := ahead + number(b, numWidth, nameWidth)
		if size > len(b) {
			return nil, nil, api.ErrForm
		}
		names = append(names, string(b[ahead:size]))
		nums = append(nums, number(b, 0, numWidth))
		b = b[size:]
	}
	if a.Err != api.OK || len(names) != a.N {
		return nil, nil, api.ErrForm
	}
	return names, nums, api.OK
}

// number: one that stands in bytes; 0, if it doesn't.
func number(b []byte, at, width int) int {
	n, _ := num.Get(b, at, width)
	return int(n)
}
