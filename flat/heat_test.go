package flat_test

import (
	"math"
	"math/rand"
	"slices"
	"testing"

	"cobble/api"
	"cobble/flat"
)

func TestP7_7HeatedBy(t *testing.T) {
	for i, x := range []struct {
		t     []int
		h     api.FlatHeat
		steps int
		want  []int
	}{
		{numbers(100, 0), exampleHeat(), 1, numbers(70, 20)}, {numbers(100, 0), exampleHeat(), 2, numbers(53, 28)}, {numbers(100, 0), exampleHeat(), 0, numbers(100, 0)},
		{numbers(100, 0), heat(50, 0, 0), 200, numbers(100, 0)}, {numbers(-7, 9, 3), heat(100000, 0, 0), 1, numbers(-7, 9, 3)},
		{numbers(0, 100, 0), heat(0, 0, 500), 1, numbers(50, 0, 50)}, {numbers(1, 0, 0), heat(0, 0, 500), 1, numbers(0, 0, 0)}, {numbers(1, 2), heat(0, 0, 500), 1, numbers(1, 1)}, {numbers(10, 20, 30, 40), heat(0, 0, 100), 1, numbers(11, 20, 30, 39)},
		{numbers(5, -5), heat(0, 1000, 0), 1, numbers(0, 0)}, {numbers(5, -5), heat(-9, 1000, 0), 3, numbers(-9, -9)}, {numbers(1, -1), heat(0, 1, 0), 1, numbers(0, -1)}, {numbers(1, -1), heat(0, 999, 0), 1, numbers(0, -1)}, {numbers(0, 0), heat(1, 999, 0), 200, numbers(0, 0)}, {numbers(0, 0), heat(-1, 1, 0), 1, numbers(-1, -1)},
		{repeated(100000, 9), heat(-100000, 1000, 0), 1, repeated(-100000, 9)}, {repeated(-100000, 9), heat(100000, 1000, 0), 200, repeated(100000, 9)}, {numbers(100000, -100000, 100000), heat(-100000, 0, 500), 1, numbers(0, 100000, 0)}, {numbers(100000, -100000), heat(100000, 200, 400), 1, numbers(20000, 20000)},
	} {
		if l, e := flat.HeatedBy(x.t, x.h, x.steps); !alike(l, x.want) || e != api.OK {
			t.Error(i, l, e)
		}
	}
}

func TestP7_7HeatedByErrors(t *testing.T) {
	l, h, steps := numbers(100001), heat(100001, 1001, -1), -1
	call := func() api.Errno {
		heated, e := flat.HeatedBy(l, h, steps)
		if e != api.OK && len(heated) != 0 {
			t.Error(heated, e)
		}
		return e
	}
	wantErrors(t, call,
		step{api.ErrShape, func() { l = repeated(100001, 10) }},
		step{api.ErrLarge, func() { l = repeated(0, 9); l[8] = -100001 }},
		step{api.ErrRange, func() { l[8] = -100000 }},
		step{api.ErrRange, func() { h.Around = -100001 }},
		step{api.ErrRange, func() { h.Around = -100000 }},
		step{api.ErrRange, func() { h.Cooling = 1000 }},
		step{api.ErrRange, func() { h.Between = 1001 }},
		step{api.ErrRange, func() { h.Between = 1000 }},
		step{api.ErrBreak, func() { h.Between = 1 }},
		step{api.ErrBreak, func() { h.Cooling = 999 }},
		step{api.ErrBreak, func() { h.Cooling = 998 }},
		step{api.ErrRange, func() { steps = 201 }},
		step{api.ErrRange, func() { steps = 200 }},
	)
	for i, x := range []struct {
		t     []int
		h     api.FlatHeat
		steps int
		want  api.Errno
	}{
		{nil, exampleHeat(), 1, api.ErrShape}, {numbers(), exampleHeat(), 1, api.ErrShape}, {numbers(1), exampleHeat(), 1, api.ErrShape}, {repeated(0, 10), exampleHeat(), 1, api.ErrLarge}, {numbers(0, 100001), exampleHeat(), 1, api.ErrRange}, {numbers(math.MinInt, 0), exampleHeat(), 1, api.ErrRange}, {numbers(0, math.MaxInt), exampleHeat(), 1, api.ErrRange},
		{numbers(0, 0), heat(math.MinInt, 0, 0), 1, api.ErrRange}, {numbers(0, 0), heat(math.MaxInt, 0, 0), 1, api.ErrRange}, {numbers(0, 0), heat(0, -1, 0), 1, api.ErrRange}, {numbers(0, 0), heat(0, 0, -1), 1, api.ErrRange}, {numbers(0, 0), heat(0, math.MinInt, 0), 1, api.ErrRange}, {numbers(0, 0), heat(0, 0, math.MaxInt), 1, api.ErrRange}, {numbers(0, 0), heat(0, 0, 1<<62), 1, api.ErrRange},
		{numbers(0, 0), heat(0, 1, 500), 1, api.ErrBreak}, {numbers(0, 0), heat(0, 0, 501), 1, api.ErrBreak}, {numbers(0, 0), heat(0, 1000, 1), 201, api.ErrBreak}, {numbers(0, 0), heat(0, 0, 500), 201, api.ErrRange}, {numbers(0, 0), heat(0, 1000, 0), math.MinInt, api.ErrRange}, {numbers(0, 0), heat(0, 1000, 0), math.MaxInt, api.ErrRange},
		{numbers(0, 0), heat(0, 0, 500), 1, api.OK}, {numbers(0, 0), heat(0, 1000, 0), 1, api.OK}, {numbers(0, 0), heat(0, 2, 499), 1, api.OK},
	} {
		l, h, steps = x.t, x.h, x.steps
		if e := call(); e != x.want {
			t.Error(i, e)
		}
	}
}

func TestP7_7HeatsByHand(t *testing.T) {
	rnd := rand.New(rand.NewSource(77))
	for range 2000 {
		size := []int{3, 1000, api.MaxFlatHeight}[rnd.Intn(3)]
		l, h, steps := randomNumbers(rnd, randomFrom(rnd, 2, api.MaxFlatNodes), -size, size), randomHeat(rnd, size), randomFrom(rnd, 0, 20)
		if heated, e := flat.HeatedBy(l, h, steps); !alike(heated, heatedByHand(l, h, steps)) || e != api.OK {
			t.Fatal(l, h, steps, heated, e)
		}
	}
}

func TestP7_13Between(t *testing.T) {
	rnd := rand.New(rand.NewSource(713))
	for range 5000 {
		size := []int{3, 1000, 90000}[rnd.Intn(3)]
		l, h, steps := randomNumbers(rnd, randomFrom(rnd, 2, api.MaxFlatNodes), -size, size), randomHeat(rnd, size), randomFrom(rnd, 0, api.MaxFlatSteps)
		heated, e := flat.HeatedBy(l, h, steps)
		all := append(slices.Clone(l), h.Around)
		if e != api.OK || slices.Min(heated) < slices.Min(all) || slices.Max(heated) > slices.Max(all) {
			t.Fatal(l, h, steps, heated, e)
		}
		hotter := slices.Clone(l)
		for i := range hotter {
			hotter[i] += randomFrom(rnd, 0, 2) * randomFrom(rnd, 0, 5000)
		}
		others, e := flat.HeatedBy(hotter, h, steps)
		if e != api.OK || len(others) != len(heated) {
			t.Fatal(hotter, h, steps, others, e)
		}
		for i, n := range others {
			if n < heated[i] {
				t.Fatal(l, hotter, h, steps, heated, others)
			}
		}
	}
}
