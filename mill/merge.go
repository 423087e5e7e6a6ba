package mill

import "cobble/api"

// commonBeginning is how many entries both logs begin with.
func commonBeginning(a, b []api.MillEntry) int {
	n := 0
	for n < len(a) && n < len(b) && a[n] == b[n] {
		n++
	}
	return n
}

// Merged returns the merged log, and the indexes of the entries of b that are refused.
func Merged(p api.MillPlant, a, b []api.MillEntry) ([]api.MillEntry, []int, api.Errno) {
	x, e := lineAfter(p, a)
	_, wrong := lineAfter(p, b)
	if e := firstError(e, wrong); e != api.OK {
		return nil, nil, e
	}
	var refused []int
	for i := commonBeginning(a, b); i < len(b); i++ {
		if x.enter(b[i]) != api.OK {
			refused = append(refused, i)
		}
	}
	return x.entries, refused, api.OK
}
