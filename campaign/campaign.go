// Package campaign implements chapter 1: orders in a small language, slabs and
// piles, and campaigns with a bound. See shared/doc/01-campaign.md.
package campaign

import "cobble/api"

// firstError returns the first one that is an error, in the order of the
// arguments whose errors are given.
func firstError(errors ...api.Errno) api.Errno {
	for _, e := range errors {
		if e != api.OK {
			return e
		}
	}
	return api.OK
}

// within tells whether all numbers lie from lo to hi.
func within(lo, hi int, numbers ...int) bool {
	for _, n := range numbers {
		if n < lo || n > hi {
			return false
		}
	}
	return true
}

func sizeOf(n int) int {
	return max(n, -n)
}
