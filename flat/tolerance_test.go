package flat_test

import (
	"math"
	"math/rand"
	"slices"
	"testing"

	"cobble/api"
	"cobble/flat"
)

func TestP7_5Within(t *testing.T) {
	zero := rules(numbers(0), actor(-10, 10, 0), actor(-10, 10, 0), actor(-10, 10, 0))
	for i, x := range []struct {
		r         api.FlatRules
		tolerance int
		first     []int
		count     int
		err       api.Errno
	}{
		{exampleRules(), 3, numbers(2), 2, api.OK}, {exampleRules(), 4, numbers(2), 3, api.OK}, {exampleRules(), 5, numbers(1), 5, api.OK}, {exampleRules(), 16, numbers(-4), 10, api.OK}, {exampleRules(), 17, numbers(-5), 11, api.OK}, {exampleRules(), 100000, numbers(-5), 11, api.OK},
		{exampleRules(), 2, nil, 0, api.ErrNone}, {exampleRules(), 0, nil, 0, api.ErrNone},
		{zero, 0, numbers(-10, -10, -10), 9261, api.OK}, {rules(numbers(1), zero.Actors...), 0, nil, 0, api.ErrNone},
		{rules(numbers(-100000), actor(-10, 10, 1000)), 90000, numbers(-10), 1, api.OK}, {rules(numbers(-100000), actor(-10, 10, 1000)), 89999, nil, 0, api.ErrNone}, {rules(numbers(-100000), actor(10, 10, 1000)), 100000, nil, 0, api.ErrNone},
		{rules(numbers(6), actor(-10, 10, 1), actor(0, 10, 1)), 0, numbers(-4, 10), 11, api.OK},
	} {
		if l, e := flat.FirstWithin(x.r, x.tolerance); !alike(l, x.first) || e != x.err {
			t.Error(i, l, e)
		}
		if n, e := flat.CountWithin(x.r, x.tolerance); n != x.count || e != api.OK {
			t.Error(i, n, e)
		}
	}
}

func TestP7_5ToleranceErrors(t *testing.T) {
	calls := map[string]func(api.FlatRules, int) api.Errno{
		"FirstWithin":     func(r api.FlatRules, n int) api.Errno { _, e := flat.FirstWithin(r, n); return e },
		"CountWithin":     func(r api.FlatRules, n int) api.Errno { _, e := flat.CountWithin(r, n); return e },
		"ContradictingIn": func(r api.FlatRules, n int) api.Errno { _, e := flat.ContradictingIn(r, n); return e },
	}
	for name, call := range calls {
		for i, x := range rulesCases() {
			if e := call(x.r, -1); x.want != api.OK && e != x.want || x.want == api.OK && e != api.ErrRange {
				t.Error(name, i, e)
			}
		}
		for _, n := range numbers(-1, 100001, math.MinInt, math.MaxInt) {
			if e := call(exampleRules(), n); e != api.ErrRange {
				t.Error(name, n, e)
			}
		}
		for _, n := range numbers(0, 100000) {
			if e := call(exampleRules(), n); e == api.ErrRange {
				t.Error(name, n, e)
			}
		}
	}
}

func TestP7_5ContradictingIn(t *testing.T) {
	// The positions break the settings 0, 0, then 1, 1, and then both others.
	three := rules(numbers(2, 0, 0), actor(0, 1, 1, 1, 4), actor(0, 1, 1, 1, -4))
	for i, x := range []struct {
		r         api.FlatRules
		tolerance int
		want      []int
		err       api.Errno
	}{
		{exampleRules(), 2, numbers(0, 1), api.OK}, {exampleRules(), 1, numbers(0, 1), api.OK}, {exampleRules(), 0, numbers(0), api.OK}, {exampleRules(), 3, nil, api.ErrNone}, {exampleRules(), 100000, nil, api.ErrNone},
		{rules(numbers(0, 9, 0), actor(-1, 1, 1, 1, 1)), 7, numbers(1), api.OK}, {rules(numbers(0, 9, 0), actor(-1, 1, 0, 0, 0)), 8, numbers(1), api.OK}, {rules(numbers(0, 9, -9), actor(-1, 1, 1, 1, 1)), 8, numbers(1, 2), api.OK}, {rules(numbers(0, 9, 0, 9), actor(-1, 1, 1, 1, 1, 1)), 0, numbers(1), api.OK},
		{rules(numbers(3, 9, 3, 2, -2), actor(-5, 5, 1, 9, 1, 1, 1)), 1, numbers(0, 1), api.OK},
		{three, 1, numbers(0, 1, 2), api.OK}, {three, 0, numbers(0, 1), api.OK}, {three, 2, nil, api.ErrNone},
	} {
		l, e := flat.ContradictingIn(x.r, x.tolerance)
		want, wanted := contradictingByHand(x.r, x.tolerance), api.OK
		if want == nil {
			wanted = api.ErrNone
		}
		if !alike(l, want) || e != wanted {
			t.Error(i, l, e, want)
		}
		if !alike(l, x.want) || e != x.err {
			t.Error(i, l, e)
		}
	}
}

// TestP7_5ManyPositions has three actuators with the settings 0 and 1, eight positions
// of which each one breaks other settings, and one that all of them keep.
func TestP7_5ManyPositions(t *testing.T) {
	r := rules(nil, actor(0, 1), actor(0, 1), actor(0, 1))
	for choice := range 8 {
		ones := 0
		for k := range 3 {
			effect := -2
			if choice>>k&1 == 1 {
				effect, ones = 2, ones+1
			}
			r.Actors[k].Effects = append(r.Actors[k].Effects, effect)
		}
		// The effects make 2 ones of the choice itself, and from 2 ones - 6 to 2 ones - 2 of all others.
		r.Target = append(r.Target, 2*ones-4)
	}
	for _, at := range numbers(0, 4, 8) {
		wide := rules(slices.Insert(slices.Clone(r.Target), at, 1))
		for _, a := range r.Actors {
			wide.Actors = append(wide.Actors, actor(0, 1, slices.Insert(slices.Clone(a.Effects), at, 0)...))
		}
		want := slices.Delete(numbers(0, 1, 2, 3, 4, 5, 6, 7, 8), at, at+1)
		if l, e := flat.ContradictingIn(wide, 2); !alike(l, want) || e != api.OK {
			t.Error(at, l, e)
		}
	}
}

func TestP7_5TolerancesByHand(t *testing.T) {
	rnd := rand.New(rand.NewSource(75))
	seen, sizes := map[api.Errno]int{}, map[int]int{}
	for range 3000 {
		r, tolerance := randomRules(rnd, smallSizes()), randomFrom(rnd, 0, 12)
		if rnd.Intn(3) == 0 {
			r, tolerance = narrowRules(rnd), randomFrom(rnd, 1, 3)
		}
		within := withinByHand(r, tolerance)
		var first []int
		wanted := api.ErrNone
		if len(within) > 0 {
			first, wanted = within[0], api.OK
		}
		if l, e := flat.FirstWithin(r, tolerance); !alike(l, first) || e != wanted {
			t.Fatal(r, tolerance, l, e)
		}
		if n, e := flat.CountWithin(r, tolerance); n != len(within) || e != api.OK {
			t.Fatal(r, tolerance, n, e)
		}
		l, e := flat.ContradictingIn(r, tolerance)
		if !alike(l, contradictingByHand(r, tolerance)) || (e == api.ErrNone) != (wanted == api.OK) || e != api.OK && e != api.ErrNone {
			t.Fatal(r, tolerance, l, e)
		}
		seen[e]++
		sizes[len(l)]++
	}
	wantSeen(t, seen, 300, api.OK, api.ErrNone)
	wantSeen(t, sizes, 10, 1, 2, 3, 4)
}

func TestP7_11Kept(t *testing.T) {
	rnd := rand.New(rand.NewSource(711))
	for range 500 {
		s := smallSizes()
		s.positions, s.actors = api.MaxFlatNodes, 3
		r := randomRules(rnd, s)
		_, most, e := flat.Best(r)
		if e != api.OK {
			t.Fatal(r, e)
		}
		for _, tolerance := range numbers(0, most/2, most-1, most, most+1) {
			if tolerance < 0 {
				continue
			}
			_, e := flat.FirstWithin(r, tolerance)
			n, f := flat.CountWithin(r, tolerance)
			if (e == api.OK) != (tolerance >= most) || (n > 0) != (tolerance >= most) || f != api.OK {
				t.Fatal(r, most, tolerance, n, e, f)
			}
			set, e := flat.ContradictingIn(r, tolerance)
			if (e == api.OK) != (tolerance < most) {
				t.Fatal(r, most, tolerance, set, e)
			}
			if e == api.OK && areKeptByHand(r, tolerance, set) {
				t.Fatal(r, tolerance, set)
			}
			for i := range set {
				if !areKeptByHand(r, tolerance, slices.Delete(slices.Clone(set), i, i+1)) {
					t.Fatal(r, tolerance, set, i)
				}
			}
		}
	}
}
