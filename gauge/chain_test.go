package gauge_test

import (
	"math"
	"math/rand"
	"slices"
	"testing"

	"cobble/api"
	"cobble/gauge"
)

// TestP5_6ChainLimits sets one number of a valid chain at a time.
func TestP5_6ChainLimits(t *testing.T) {
	type set = func(x *api.GaugeLooper, n int)
	target := func(x *api.GaugeLooper, n int) { x.Target = n }
	num := func(x *api.GaugeLooper, n int) { x.Num = n }
	den := func(x *api.GaugeLooper, n int) { x.Den = n }
	down := func(x *api.GaugeLooper, n int) { x.Disturbance.Lo = n }
	up := func(x *api.GaugeLooper, n int) { x.Disturbance.Hi = n }
	low := func(x *api.GaugeLooper, n int) { x.Limits.Lo = n }
	high := func(x *api.GaugeLooper, n int) { x.Limits.Hi = n }
	for i, x := range []struct {
		set  set
		n    int
		want api.Errno
	}{
		{target, -20, api.OK}, {target, 20, api.OK}, {target, -21, api.ErrBreak}, {target, 21, api.ErrBreak}, {target, -1000, api.ErrBreak}, {target, 1000, api.ErrBreak}, {target, -1001, api.ErrRange}, {target, 1001, api.ErrRange}, {target, math.MinInt, api.ErrRange},
		{num, 0, api.OK}, {num, -1, api.ErrRange}, {num, 2, api.OK}, {num, 3, api.ErrForm}, {num, 100, api.ErrForm}, {num, 101, api.ErrRange}, {num, math.MinInt, api.ErrRange},
		{den, 1, api.OK}, {den, 0, api.ErrRange}, {den, 100, api.OK}, {den, 101, api.ErrRange}, {den, -1, api.ErrRange}, {den, math.MaxInt, api.ErrRange},
		{down, -1000, api.OK}, {down, -1001, api.ErrRange}, {down, 1, api.OK}, {down, 2, api.ErrOrder}, {down, 1001, api.ErrRange}, {down, math.MinInt, api.ErrRange},
		{up, 1000, api.OK}, {up, 1001, api.ErrRange}, {up, -1, api.OK}, {up, -2, api.ErrOrder}, {up, -1001, api.ErrRange}, {up, math.MaxInt, api.ErrRange},
		{low, -1000, api.OK}, {low, -1001, api.ErrRange}, {low, 0, api.OK}, {low, 1, api.ErrBreak}, {low, 20, api.ErrBreak}, {low, 21, api.ErrOrder}, {low, 1001, api.ErrRange},
		{high, 1000, api.OK}, {high, 1001, api.ErrRange}, {high, 0, api.OK}, {high, -1, api.ErrBreak}, {high, -20, api.ErrBreak}, {high, -21, api.ErrOrder}, {high, math.MinInt, api.ErrRange},
	} {
		for at := range 2 {
			c := exampleChain()
			c.Loopers[0].Disturbance = ends(-1, 1)
			c.Loopers[1].Disturbance = ends(-1, 1)
			x.set(&c.Loopers[at], x.n)
			want := at
			if x.want == api.OK {
				want = 0
			}
			if got, e := gauge.CheckChain(c); got != want || e != x.want {
				t.Error(i, at, got, e)
			}
		}
	}
	l := exampleChain().Loopers[0]
	for n, want := range map[int]api.Errno{0: api.ErrShape, 1: api.OK, 5: api.OK, 6: api.ErrLarge} {
		if at, e := gauge.CheckChain(chain(slices.Repeat([]api.GaugeLooper{l}, n)...)); at != 0 || e != want {
			t.Error(n, at, e)
		}
	}
}

func TestP5_6ChainErrorsInTheirOrder(t *testing.T) {
	c := chain()
	x := api.GaugeMove{}
	wantErrors(t, func() api.Errno { _, e := gauge.CheckChain(c); return e },
		step{api.ErrShape, func() { c.Loopers = make([]api.GaugeLooper, 6) }},
		step{api.ErrLarge, func() { c.Loopers = make([]api.GaugeLooper, 2) }},
		step{api.ErrRange, func() { c.Loopers[0] = looper(1001, 101, 100, ends(1, 0), ends(3, 2)) }},
		step{api.ErrRange, func() { c.Loopers[0].Target = 1 }},
		step{api.ErrRange, func() { c.Loopers[0].Num = 100; c.Loopers[0].Den = 99 }},
		step{api.ErrForm, func() { c.Loopers[0].Den = 100 }},
		step{api.ErrOrder, func() { c.Loopers[0].Disturbance.Hi = 1 }},
		step{api.ErrOrder, func() { c.Loopers[0].Limits.Hi = 4 }},
		step{api.ErrBreak, func() { c.Loopers[0].Target = 3 }},
		step{api.ErrRange, func() { c.Loopers[1].Den = 1 }})
	c.Loopers[1].Den = 0
	wantErrors(t, func() api.Errno { _, e := gauge.ChainStep(c, x); return e },
		step{api.ErrRange, func() { c.Loopers[1].Den = 1 }},
		step{api.ErrShape, func() { x = move(numbers(2, 1), 0) }},
		step{api.ErrShape, func() { x.Disturbances = numbers(0, 1) }},
		// each looper is looked at for all of its errors
		step{api.ErrBreak, func() { x.Heights[0] = 3 }},
		step{api.ErrRange, func() { x.Disturbances[0] = 1 }},
		step{api.ErrBreak, func() { x.Heights[1] = 0 }},
		step{api.ErrRange, func() { x.Disturbances[1] = 0 }})
}

func TestP5_6ChainStep(t *testing.T) {
	three := chain(looper(5, 1, 3, ends(-9, 9), ends(0, 20)), looper(-5, 1, 1, ends(0, 0), ends(-20, 0)), looper(0, 0, 7, ends(-3, 3), ends(-1000, 1000)))
	for i, x := range []struct {
		c    api.GaugeChain
		x    api.GaugeMove
		want []int
		err  api.Errno
	}{
		{exampleChain(), move(numbers(4, 6), 1, 0), numbers(6, 3), api.OK}, {exampleChain(), move(numbers(4, 6), -1, 0), numbers(4, 3), api.OK}, {exampleChain(), move(numbers(0, 0), 0, 0), numbers(0, 0), api.OK},
		// corrections are rounded towards 0
		{exampleChain(), move(numbers(-3, -5), 0, 0), numbers(-4, -3), api.OK}, {exampleChain(), move(numbers(3, 5), 0, 0), numbers(4, 3), api.OK}, {exampleChain(), move(numbers(1, -1), 0, 0), numbers(1, -1), api.OK},
		{three, move(numbers(10, -8, 500), 2, 0, -3), numbers(8, -5, 497), api.OK}, {three, move(numbers(0, 0, -1000), -9, 0, 3), numbers(-3, -5, -997), api.OK},
		// the result may be outside of the limits
		{exampleChain(), move(numbers(20, 20), 1, 0), numbers(21, 10), api.OK}, {exampleChain(), move(numbers(-20, -20), -1, 0), numbers(-21, -10), api.OK},
		{exampleChain(), move(numbers(21, 0), 0, 0), nil, api.ErrBreak}, {exampleChain(), move(numbers(0, -21), 0, 0), nil, api.ErrBreak}, {exampleChain(), move(numbers(0, 0), 2, 0), nil, api.ErrRange}, {exampleChain(), move(numbers(0, 0), 0, 1), nil, api.ErrRange}, {exampleChain(), move(numbers(0, 0), -2, 0), nil, api.ErrRange},
		{exampleChain(), move(numbers(math.MinInt, 0), 0, 0), nil, api.ErrBreak}, {exampleChain(), move(numbers(0, 0), math.MaxInt, 0), nil, api.ErrRange},
		{exampleChain(), move(numbers(0), 0, 0), nil, api.ErrShape}, {exampleChain(), move(numbers(0, 0, 0), 0, 0), nil, api.ErrShape}, {exampleChain(), move(numbers(0, 0), 0), nil, api.ErrShape}, {exampleChain(), move(numbers(0, 0), 0, 0, 0), nil, api.ErrShape}, {exampleChain(), move(nil), nil, api.ErrShape}, {exampleChain(), move(numbers(99), 99), nil, api.ErrShape},
		{chain(), move(nil), nil, api.ErrShape},
	} {
		if got, e := gauge.ChainStep(x.c, x.x); !alike(got, x.want) || e != x.err {
			t.Error(i, got, e)
		}
	}
}

func TestP5_6StepsByHand(t *testing.T) {
	rnd := rand.New(rand.NewSource(56))
	for range 3000 {
		c := randomChain(rnd, api.MaxGaugeLoopers, api.MaxGaugeHeight, api.MaxGaugeHeight)
		x := move(randomHeights(rnd, limitsOf(c)), randomHeights(rnd, disturbancesOf(c))...)
		after, e := gauge.ChainStep(c, x)
		if want := stepByHand(c, x.Heights, x.Disturbances); e != api.OK || !alike(after, want) {
			t.Fatal(c, x, after, e, want)
		}
		// a greater height never leads to a smaller one
		at := rnd.Intn(len(x.Heights))
		if x.Heights[at] == c.Loopers[at].Limits.Hi {
			continue
		}
		x.Heights[at]++
		greater, e := gauge.ChainStep(c, x)
		for i, h := range greater {
			if e != api.OK || h < after[i] {
				t.Fatal(c, x, after, greater, e)
			}
		}
	}
}

func TestP5_7CheckBox(t *testing.T) {
	quiet := chain(looper(3, 1, 2, ends(0, 0), ends(-9, 9)))
	loose := chain(looper(0, 0, 1, ends(-1, 1), ends(-20, 20)))
	pushed := chain(looper(0, 1, 2, ends(0, 1), ends(-20, 20)))
	for i, x := range []struct {
		c    api.GaugeChain
		box  []api.Range
		at   int
		want api.Errno
	}{
		{exampleChain(), boxOf(ends(-2, 2), ends(0, 0)), 0, api.OK}, {exampleChain(), boxOf(ends(-20, 20), ends(0, 0)), 0, api.OK}, {exampleChain(), boxOf(ends(-2, 2), ends(-1, 1)), 0, api.OK}, {exampleChain(), boxOf(ends(-2, 3), ends(0, 0)), 0, api.OK},
		{exampleChain(), boxOf(ends(-1, 2), ends(0, 0)), 0, api.ErrProof}, {exampleChain(), boxOf(ends(-2, 1), ends(0, 0)), 0, api.ErrProof}, {exampleChain(), boxOf(ends(-2, 2), ends(0, 2)), 0, api.ErrProof}, {exampleChain(), boxOf(ends(-2, 4), ends(0, 2)), 0, api.OK}, {exampleChain(), boxOf(ends(-4, 4), ends(2, 2)), 1, api.ErrProof}, {exampleChain(), boxOf(ends(-20, 20), ends(-20, 20)), 0, api.ErrProof},
		{exampleChain(), boxOf(ends(-2, 2), ends(0, 21)), 1, api.ErrBreak}, {exampleChain(), boxOf(ends(-21, 2), ends(0, 21)), 0, api.ErrBreak}, {exampleChain(), boxOf(ends(-2, 2), ends(21, 22)), 1, api.ErrBreak}, {exampleChain(), boxOf(ends(-1, 2), ends(0, 21)), 1, api.ErrBreak},
		{exampleChain(), boxOf(ends(2, -2), ends(0, 0)), 0, api.ErrOrder}, {exampleChain(), boxOf(ends(-2, 2), ends(22, 21)), 1, api.ErrOrder}, {exampleChain(), boxOf(ends(-21, 2), ends(22, 21)), 0, api.ErrBreak}, {exampleChain(), boxOf(ends(math.MinInt, math.MaxInt), ends(0, 0)), 0, api.ErrBreak},
		{exampleChain(), boxOf(ends(-2, 2)), 0, api.ErrShape}, {exampleChain(), boxOf(ends(-2, 2), ends(0, 0), ends(0, 0)), 0, api.ErrShape}, {exampleChain(), nil, 0, api.ErrShape}, {exampleChain(), boxOf(ends(2, -2)), 0, api.ErrShape},
		// boxes of one state
		{quiet, boxOf(ends(3, 3)), 0, api.OK}, {quiet, boxOf(ends(4, 4)), 0, api.OK}, {quiet, boxOf(ends(2, 2)), 0, api.OK}, {quiet, boxOf(ends(5, 5)), 0, api.ErrProof}, {quiet, boxOf(ends(1, 1)), 0, api.ErrProof}, {quiet, boxOf(ends(-9, 9)), 0, api.OK},
		// a looper that is not corrected
		{loose, boxOf(ends(-20, 20)), 0, api.ErrProof}, {loose, boxOf(ends(0, 0)), 0, api.ErrProof},
		{pushed, boxOf(ends(0, 2)), 0, api.OK}, {pushed, boxOf(ends(2, 2)), 0, api.ErrProof}, {pushed, boxOf(ends(0, 1)), 0, api.ErrProof},
		{chain(), nil, 0, api.ErrShape},
	} {
		if at, e := gauge.CheckBox(x.c, x.box); at != x.at || e != x.want {
			t.Error(i, at, e)
		}
	}
	broken := exampleChain()
	broken.Loopers[1].Den = 0
	if at, e := gauge.CheckBox(broken, nil); at != 0 || e != api.ErrRange {
		t.Error("the error of the chain has no index", at, e)
	}
}

func TestP5_7BoxFor(t *testing.T) {
	loose := chain(looper(0, 0, 1, ends(-1, 1), ends(-20, 20)))
	still := chain(looper(0, 0, 1, ends(0, 0), ends(-20, 20)))
	for i, x := range []struct {
		c     api.GaugeChain
		start []int
		want  []api.Range
		err   api.Errno
	}{
		{exampleChain(), numbers(0, 0), boxOf(ends(-2, 2), ends(0, 0)), api.OK}, {exampleChain(), numbers(2, 0), boxOf(ends(-2, 2), ends(0, 0)), api.OK}, {exampleChain(), numbers(9, 0), boxOf(ends(-2, 9), ends(0, 0)), api.OK}, {exampleChain(), numbers(-9, 1), boxOf(ends(-9, 2), ends(1, 1)), api.OK},
		{exampleChain(), numbers(0, 6), boxOf(ends(-2, 8), ends(1, 6)), api.OK}, {exampleChain(), numbers(0, 18), boxOf(ends(-2, 20), ends(1, 18)), api.OK}, {exampleChain(), numbers(0, 20), nil, api.ErrNone}, {exampleChain(), numbers(0, -20), nil, api.ErrNone},
		// a box of one state
		{still, numbers(7), boxOf(ends(7, 7)), api.OK}, {still, numbers(20), boxOf(ends(20, 20)), api.OK}, {chain(looper(3, 1, 2, ends(0, 0), ends(-9, 9))), numbers(4), boxOf(ends(4, 4)), api.OK}, {chain(looper(3, 1, 2, ends(0, 0), ends(-9, 9))), numbers(9), boxOf(ends(4, 9)), api.OK},
		// not corrected: no box
		{loose, numbers(0), nil, api.ErrNone}, {chain(looper(0, 0, 1, ends(0, 1), ends(-1000, 1000))), numbers(-1000), nil, api.ErrNone},
		{chain(looper(0, 1, 1, ends(-7, 9), ends(-7, 9))), numbers(0), boxOf(ends(-7, 9)), api.OK}, {chain(looper(0, 1, 1, ends(-7, 9), ends(-7, 8))), numbers(0), nil, api.ErrNone}, {chain(looper(0, 1, 1, ends(-7, 9), ends(-6, 9))), numbers(0), nil, api.ErrNone}, {chain(looper(0, 1, 1, ends(5, 6), ends(-9, 9))), numbers(-3), boxOf(ends(-3, 6)), api.OK}, {chain(looper(0, 1, 1, ends(5, 6), ends(-9, 9))), numbers(5), boxOf(ends(5, 6)), api.OK},
		{exampleChain(), numbers(0), nil, api.ErrShape}, {exampleChain(), nil, nil, api.ErrShape}, {exampleChain(), numbers(0, 0, 0), nil, api.ErrShape}, {exampleChain(), numbers(21), nil, api.ErrShape},
		{exampleChain(), numbers(21, 0), nil, api.ErrBreak}, {exampleChain(), numbers(0, -21), nil, api.ErrBreak}, {exampleChain(), numbers(math.MinInt, math.MaxInt), nil, api.ErrBreak}, {loose, numbers(21), nil, api.ErrBreak}, {chain(), nil, nil, api.ErrShape},
	} {
		if box, e := gauge.BoxFor(x.c, x.start); !alike(box, x.want) || e != x.err {
			t.Error(i, box, e)
		}
	}
	broken := exampleChain()
	broken.Loopers[0].Num = 3
	if box, e := gauge.BoxFor(broken, numbers(99)); len(box) != 0 || e != api.ErrForm {
		t.Error(box, e)
	}
}

// boxesIn are all boxes that lie in limits.
func boxesIn(limits []api.Range) [][]api.Range {
	all := [][]api.Range{nil}
	for _, r := range limits {
		var next [][]api.Range
		for _, box := range all {
			for lo := r.Lo; lo <= r.Hi; lo++ {
				for hi := lo; hi <= r.Hi; hi++ {
					next = append(next, append(slices.Clone(box), ends(lo, hi)))
				}
			}
		}
		all = next
	}
	return all
}

func isInside(box, other []api.Range) bool {
	for i, r := range box {
		if r.Lo < other[i].Lo || r.Hi > other[i].Hi {
			return false
		}
	}
	return true
}

// strongChain has gains from a half on, so that it has boxes more often.
func strongChain(rnd *rand.Rand, loopers, height, by int) api.GaugeChain {
	c := randomChain(rnd, loopers, height, by)
	for i := range c.Loopers {
		x := &c.Loopers[i]
		x.Num = randomFrom(rnd, (x.Den+1)/2, x.Den)
		x.Disturbance = ends(-rnd.Intn(by+1), rnd.Intn(by+1))
	}
	return c
}

// TestP5_7BoxesByHand looks at all boxes in small limits; it covers P5.14, too.
func TestP5_7BoxesByHand(t *testing.T) {
	rnd := rand.New(rand.NewSource(57))
	seen, found := map[api.Errno]int{}, map[api.Errno]int{}
	for range 250 {
		c := strongChain(rnd, 2, 4, 1)
		start := randomHeights(rnd, limitsOf(c))
		smallest, e := gauge.BoxFor(c, start)
		found[e]++
		isAmong := false
		for _, box := range boxesIn(limitsOf(c)) {
			want, at := api.OK, 0
			if leaves := leavesByHand(c, box); leaves >= 0 {
				want, at = api.ErrProof, leaves
			}
			if got, e := gauge.CheckBox(c, box); got != at || e != want {
				t.Fatal(c, box, got, e, at, want)
			}
			seen[want]++
			if want != api.OK || !isIn(start, box) {
				continue
			}
			if e != api.OK || !isInside(smallest, box) {
				t.Fatal("a box is accepted", c, start, box, smallest, e)
			}
			isAmong = isAmong || alike(box, smallest)
		}
		if isAmong != (e == api.OK) || e != api.OK && e != api.ErrNone {
			t.Fatal(c, start, smallest, e)
		}
	}
	wantSeen(t, seen, 500, api.OK, api.ErrProof)
	wantSeen(t, found, 50, api.OK, api.ErrNone)
}

// TestP5_14NoDisturbanceLeavesTheBox runs long chains within their boxes.
func TestP5_14NoDisturbanceLeavesTheBox(t *testing.T) {
	rnd := rand.New(rand.NewSource(514))
	seen := map[api.Errno]int{}
	for range 2000 {
		c := strongChain(rnd, api.MaxGaugeLoopers, api.MaxGaugeHeight, 60)
		start := randomHeights(rnd, limitsOf(c))
		box, e := gauge.BoxFor(c, start)
		seen[e]++
		if e != api.OK {
			continue
		}
		if at, e := gauge.CheckBox(c, box); at != 0 || e != api.OK || !isIn(start, box) {
			t.Fatal(c, start, box, at, e)
		}
		heights := randomHeights(rnd, box)
		for range 30 {
			heights, e = gauge.ChainStep(c, move(heights, randomHeights(rnd, disturbancesOf(c))...))
			if e != api.OK || !isIn(heights, box) {
				t.Fatal(c, box, heights, e)
			}
		}
		// a box that is accepted and contains the start contains this one
		other, e := gauge.BoxFor(c, randomHeights(rnd, limitsOf(c)))
		if e == api.OK && isIn(start, other) && !isInside(box, other) {
			t.Fatal(c, start, box, other)
		}
	}
	wantSeen(t, seen, 200, api.OK, api.ErrNone)
}
