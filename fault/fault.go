// Package fault finds out which error a call tells: whoever calls it lists what may be wrong, and so the order in which it counts stands in one place.
package fault

import "drumlin/api"

// When: this error, if that is so.
func When(so bool, e api.Errno) api.Errno {
	if so {
		return e
	}
	return api.OK
}

// First: the first error of a list.
func First(list ...api.Errno) api.Errno {
	for _, e := range list {
		if e != api.OK {
			return e
		}
	}
	return api.OK
}

// Least: the error of a list with the least number.
func Least(list ...api.Errno) api.Errno {
	least := api.OK
	for _, e := range list {
		if least == api.OK || e != api.OK && e < least {
			least = e
		}
	}
	return least
}
