package model_test

import (
	"math"
	"math/rand"
	"slices"
	"testing"

	"cobble/api"
	"cobble/model"
)

func TestP4_1CheckTable(t *testing.T) {
	twelve := knots(0, 9, 1, 8, 2, 7, 3, 6, 4, 5, 5, 4, 6, 3, 7, 2, 8, 1, 9, 1, 10, 100000, 20000, 1)
	for i, x := range []struct {
		l    []api.ModelKnot
		at   int
		want api.Errno
	}{
		{exampleTable(), 0, api.OK}, {nil, 0, api.ErrShape}, {[]api.ModelKnot{}, 0, api.ErrShape},
		{twelve, 0, api.OK}, {append(knots(0, 0), twelve...), 0, api.ErrLarge}, {make([]api.ModelKnot, 13), 0, api.ErrLarge}, {make([]api.ModelKnot, 12), 0, api.ErrRange},
		{knots(0, 1), 0, api.OK}, {knots(20000, 100000), 0, api.OK},
		{knots(-1, 1), 0, api.ErrRange}, {knots(20001, 1), 0, api.ErrRange}, {knots(0, 0), 0, api.ErrRange}, {knots(0, 100001), 0, api.ErrRange}, {knots(0, -1), 0, api.ErrRange},
		{knots(math.MinInt, 1), 0, api.ErrRange}, {knots(0, math.MaxInt), 0, api.ErrRange},
		{knots(5, 5, 20001, 5), 1, api.ErrRange}, {knots(5, 5, 6, 0), 1, api.ErrRange}, {knots(5, 5, 6, 100001), 1, api.ErrRange}, {knots(5, 5, -1, 5), 1, api.ErrRange},
		{knots(5, 5, 5, 5), 1, api.ErrOrder}, {knots(5, 5, 4, 5), 1, api.ErrOrder}, {knots(5, 5, 6, 5), 0, api.OK}, {knots(5, 5, 5, 0), 1, api.ErrRange},
		{knots(5, 5, 6, 5, 6, 5, 7, 0), 2, api.ErrOrder}, {knots(5, 5, 6, 0, 6, 5), 1, api.ErrRange}, {knots(5, 5, 7, 5, 6, 5), 2, api.ErrOrder}, {knots(1, 1, 3, 1, 2, 1, 20001, 1), 2, api.ErrOrder},
	} {
		if at, e := model.CheckTable(x.l); at != x.at || e != x.want {
			t.Error(i, at, e)
		}
	}
}

func TestP4_1TableErrorsInTheirOrder(t *testing.T) {
	var l []api.ModelKnot
	wantErrors(t, func() api.Errno { _, e := model.CheckTable(l); return e },
		step{api.ErrShape, func() { l = make([]api.ModelKnot, 13) }},
		step{api.ErrLarge, func() { l = knots(1, 0, 1, 0) }},
		step{api.ErrRange, func() { l[0].Value = 1 }},
		step{api.ErrRange, func() { l[1].Value = 1 }},
		step{api.ErrOrder, func() { l[1].X = 2 }})
}

func TestP4_1ValueAt(t *testing.T) {
	flat := knots(500, 7)
	for i, x := range []struct {
		l         []api.ModelKnot
		at, value int
		want      api.Errno
	}{
		{exampleTable(), 8500, 150, api.OK}, {exampleTable(), 9250, 90, api.OK}, {exampleTable(), 7000, 200, api.OK},
		{exampleTable(), 0, 200, api.OK}, {exampleTable(), 8000, 200, api.OK}, {exampleTable(), 9000, 100, api.OK}, {exampleTable(), 10000, 60, api.OK}, {exampleTable(), 20000, 60, api.OK},
		// a line that falls is rounded down, too
		{exampleTable(), 8001, 199, api.OK}, {exampleTable(), 8009, 199, api.OK}, {exampleTable(), 8010, 199, api.OK}, {exampleTable(), 8011, 198, api.OK}, {exampleTable(), 9001, 99, api.OK}, {exampleTable(), 9999, 60, api.OK},
		{knots(10, 1, 20, 4), 13, 1, api.OK}, {knots(10, 1, 20, 4), 14, 2, api.OK}, {knots(10, 1, 20, 4), 19, 3, api.OK}, {knots(10, 1, 20, 4), 20, 4, api.OK},
		{knots(0, 1, 20000, 100000), 19999, 99995, api.OK}, {knots(0, 100000, 20000, 1), 19999, 5, api.OK}, {knots(0, 100000, 20000, 1), 1, 99995, api.OK},
		{flat, 0, 7, api.OK}, {flat, 500, 7, api.OK}, {flat, 20000, 7, api.OK},
		{exampleTable(), -1, 0, api.ErrRange}, {exampleTable(), 20001, 0, api.ErrRange}, {exampleTable(), math.MinInt, 0, api.ErrRange},
		{nil, -1, 0, api.ErrShape}, {knots(5, 5, 5, 5), -1, 0, api.ErrOrder}, {make([]api.ModelKnot, 13), -1, 0, api.ErrLarge},
	} {
		if n, e := model.ValueAt(x.l, x.at); n != x.value || e != x.want {
			t.Error(i, n, e)
		}
	}
}

func TestP4_1RangeOver(t *testing.T) {
	hill := knots(100, 10, 200, 50, 300, 20, 400, 90)
	for i, x := range []struct {
		l           []api.ModelKnot
		over, value api.Range
		want        api.Errno
	}{
		{exampleTable(), ends(8500, 9500), ends(80, 150), api.OK}, {exampleTable(), ends(0, 20000), ends(60, 200), api.OK}, {exampleTable(), ends(9250, 9250), ends(90, 90), api.OK},
		{hill, ends(0, 20000), ends(10, 90), api.OK}, {hill, ends(150, 350), ends(20, 55), api.OK}, {hill, ends(150, 250), ends(30, 50), api.OK}, {hill, ends(110, 310), ends(14, 50), api.OK}, {hill, ends(250, 330), ends(20, 41), api.OK}, {hill, ends(200, 300), ends(20, 50), api.OK}, {hill, ends(400, 500), ends(90, 90), api.OK},
		{knots(9, 3), ends(0, 20000), ends(3, 3), api.OK},
		{hill, ends(-1, 5), api.Range{}, api.ErrRange}, {hill, ends(5, 20001), api.Range{}, api.ErrRange}, {hill, ends(20001, 5), api.Range{}, api.ErrRange}, {hill, ends(5, -1), api.Range{}, api.ErrRange}, {hill, ends(6, 5), api.Range{}, api.ErrOrder}, {hill, ends(20000, 0), api.Range{}, api.ErrOrder},
		{nil, ends(6, 5), api.Range{}, api.ErrShape}, {knots(0, 0), ends(-1, 5), api.Range{}, api.ErrRange}, {knots(1, 1, 1, 1), ends(-1, 5), api.Range{}, api.ErrOrder},
	} {
		if r, e := model.RangeOver(x.l, x.over); r != x.value || e != x.want {
			t.Error(i, r, e)
		}
	}
}

func TestP4_1ValuesByHand(t *testing.T) {
	rnd := rand.New(rand.NewSource(41))
	for range 300 {
		l := randomTable(rnd, api.MaxModelValue)
		for range 100 {
			x := randomFrom(rnd, 0, api.MaxModelX)
			if n, e := model.ValueAt(l, x); e != api.OK || n != valueByHand(l, x) {
				t.Fatal(l, x, n, e)
			}
		}
	}
}

// TestP4_11ValuesInTheirRange looks at every temperature of a range: the values lie
// in it, and two of them are its ends.
func TestP4_11ValuesInTheirRange(t *testing.T) {
	rnd := rand.New(rand.NewSource(411))
	for range 100 {
		l := randomTable(rnd, 1000)
		over := randomEnds(rnd, 0, api.MaxModelX)
		over.Hi = min(over.Hi, over.Lo+rnd.Intn(3000))
		r, e := model.RangeOver(l, over)
		var values []int
		for x := over.Lo; x <= over.Hi; x++ {
			n, e := model.ValueAt(l, x)
			if e != api.OK {
				t.Fatal(l, x, e)
			}
			values = append(values, n)
		}
		if e != api.OK || r != ends(slices.Min(values), slices.Max(values)) {
			t.Fatal(l, over, r, e)
		}
	}
}
