package fault_test

import (
	"testing"

	"drumlin/api"
	"drumlin/fault"
)

// P17.1, P18.1: which of several errors is told.
func TestFault(t *testing.T) {
	for _, x := range []struct {
		list         []api.Errno
		first, least api.Errno
	}{
		{nil, 0, 0},
		{[]api.Errno{0, 0}, 0, 0},
		{[]api.Errno{9}, 9, 9},
		{[]api.Errno{0, 9, 0, 4, 12, 0}, 9, 4},
		{[]api.Errno{4, 9, 5}, 4, 4},
		{[]api.Errno{12, 12, 0}, 12, 12},
	} {
		if e := fault.First(x.list...); e != x.first {
			t.Errorf("First(%v) = %v; want %v", x.list, e, x.first)
		}
		if e := fault.Least(x.list...); e != x.least {
			t.Errorf("Least(%v) = %v; want %v", x.list, e, x.least)
		}
	}
	if fault.When(true, api.ErrIo) != api.ErrIo || fault.When(false, api.ErrIo) != api.OK {
		t.Errorf("When")
	}
}
