package flat_test

import (
	"math"
	"math/rand"
	"slices"
	"testing"

	"cobble/api"
	"cobble/flat"
)

// contourCases are contours, the index of a point, and the error.
func contourCases() []contourCase {
	ten := contour(0, 0, 1, 0, 2, 0, 3, 0, 4, 0, 5, 0, 6, 0, 7, 0, 8, 0, 9, 0)
	return []contourCase{
		{exampleContour(), 0, api.OK}, {ten, 0, api.OK}, {contour(0, 100000, 10000, -100000), 0, api.OK}, {contour(9999, -100000, 10000, 100000), 0, api.OK},
		{nil, 0, api.ErrShape}, {contour(), 0, api.ErrShape}, {contour(5, 5), 0, api.ErrShape}, {contour(-1, 100001), 0, api.ErrShape},
		{append(ten, contour(10, 0)...), 0, api.ErrLarge}, {append(contour(-1, 0), ten...), 0, api.ErrLarge}, {make([]api.FlatPoint, 11), 0, api.ErrLarge},
		{contour(-1, 0, 1, 0), 0, api.ErrRange}, {contour(0, 0, 10001, 0), 1, api.ErrRange}, {contour(0, 100001, 1, 0), 0, api.ErrRange}, {contour(0, 0, 1, -100001), 1, api.ErrRange}, {contour(0, 0, 1, 0, math.MaxInt, 0), 2, api.ErrRange}, {contour(0, 0, math.MinInt, 0), 1, api.ErrRange}, {contour(0, 0, 1, 0, 2, math.MinInt), 2, api.ErrRange}, {contour(0, math.MaxInt, 1, 0), 0, api.ErrRange}, {contour(5, 0, -1, 0), 1, api.ErrRange}, {contour(5, 0, 4, 100001), 1, api.ErrRange},
		{contour(0, 0, 0, 0), 1, api.ErrOrder}, {contour(5, 0, 4, 0), 1, api.ErrOrder}, {contour(0, 0, 5, 0, 5, 9), 2, api.ErrOrder}, {contour(0, 0, 5, 0, 3, 9, 10001, 0), 2, api.ErrOrder}, {contour(10000, 0, 0, 0), 1, api.ErrOrder},
		{contour(0, 0, 1, 100001, 1, 0), 1, api.ErrRange}, {contour(3, 0, 2, 0, 10001, 0), 1, api.ErrOrder},
	}
}

type contourCase struct {
	c    []api.FlatPoint
	at   int
	want api.Errno
}

func TestP7_6CheckContour(t *testing.T) {
	for i, x := range contourCases() {
		if at, e := flat.CheckContour(x.c); at != x.at || e != x.want {
			t.Error(i, at, e)
		}
		want := x.want
		if want == api.OK {
			want = api.ErrOpen
		}
		if f, e := flat.HeightAt(x.c, -1); f != (api.Frac{}) || e != want {
			t.Error(i, f, e)
		}
		want = x.want
		if want == api.OK {
			want = api.ErrLarge
		}
		if l, e := flat.Worn(x.c, make([]api.FlatStrip, 21)); len(l) != 0 || e != want {
			t.Error(i, l, e)
		}
	}
}

func TestP7_6HeightAt(t *testing.T) {
	steep := contour(3, -100000, 10, 100000, 10000, -99999)
	for i, x := range []struct {
		c    []api.FlatPoint
		at   int
		want api.Frac
		err  api.Errno
	}{
		{exampleContour(), 25, frac(15, 1), api.OK}, {exampleContour(), 0, frac(10, 1), api.OK}, {exampleContour(), 100, frac(30, 1), api.OK}, {exampleContour(), 1, frac(51, 5), api.OK}, {exampleContour(), 99, frac(149, 5), api.OK},
		{exampleContour(), -1, api.Frac{}, api.ErrOpen}, {exampleContour(), 101, api.Frac{}, api.ErrOpen}, {exampleContour(), math.MinInt, api.Frac{}, api.ErrOpen}, {exampleContour(), math.MaxInt, api.Frac{}, api.ErrOpen},
		{steep, 2, api.Frac{}, api.ErrOpen}, {steep, 3, frac(-100000, 1), api.OK}, {steep, 4, frac(-500000, 7), api.OK}, {steep, 10, frac(100000, 1), api.OK}, {steep, 11, frac(998800001, 9990), api.OK}, {steep, 9999, frac(-998790011, 9990), api.OK}, {steep, 10000, frac(-99999, 1), api.OK}, {steep, 10001, api.Frac{}, api.ErrOpen},
		{contour(0, 5, 10, 0, 20, 0), 5, frac(5, 2), api.OK}, {contour(0, 5, 10, 0, 20, 0), 15, frac(0, 1), api.OK}, {contour(0, -1, 2, 1), 1, frac(0, 1), api.OK}, {contour(0, -2, 4, -1), 1, frac(-7, 4), api.OK},
		{contour(5, 0), 5, api.Frac{}, api.ErrShape}, {contour(5, 0, 5, 0), 5, api.Frac{}, api.ErrOrder}, {contour(5, 100001, 7, 0), 5, api.Frac{}, api.ErrRange},
	} {
		if f, e := flat.HeightAt(x.c, x.at); f != x.want || e != x.err {
			t.Error(i, f, e)
		}
	}
}

func TestP7_6HeightsByHand(t *testing.T) {
	rnd := rand.New(rand.NewSource(76))
	for range 1000 {
		position := []int{20, 10000}[rnd.Intn(2)]
		c := randomContour(rnd, position, []int{5, 100000}[rnd.Intn(2)])
		at := []int{c[0].At - 1, c[0].At, c[1].At, c[len(c)-1].At, c[len(c)-1].At + 1}
		at = append(at, randomNumbers(rnd, 20, 0, position)...)
		for _, n := range at {
			want, wanted := api.Frac{}, api.ErrOpen
			if n >= c[0].At && n <= c[len(c)-1].At {
				want, wanted = fracOf(heightByHand(c, n)), api.OK
			}
			if f, e := flat.HeightAt(c, n); f != want || e != wanted {
				t.Fatal(c, n, f, e)
			}
		}
	}
}

func TestP7_6Worn(t *testing.T) {
	long := contour(0, 10, 50, -100000, 100, 30, 10000, 7)
	most := slices.Repeat(strips(strip(0, 10000, 1000)), 20)
	for i, x := range []struct {
		c    []api.FlatPoint
		l    []api.FlatStrip
		want []api.FlatPoint
	}{
		{exampleContour(), strips(strip(50, 200, 4)), contour(0, 10, 100, 26)},
		{exampleContour(), nil, exampleContour()}, {exampleContour(), strips(), exampleContour()}, {exampleContour(), strips(strip(0, 100, 0)), exampleContour()}, {exampleContour(), strips(strip(1, 99, 1000)), exampleContour()}, {exampleContour(), strips(strip(101, 10000, 1000)), exampleContour()},
		{exampleContour(), strips(strip(0, 0, 3)), contour(0, 7, 100, 30)}, {exampleContour(), strips(strip(100, 100, 3)), contour(0, 10, 100, 27)}, {exampleContour(), strips(strip(0, 100, 1), strip(100, 200, 2), strip(0, 99, 4)), contour(0, 5, 100, 27)},
		{long, strips(strip(50, 100, 1000)), contour(0, 10, 50, -101000, 100, -970, 10000, 7)}, {long, most, contour(0, -19990, 50, -120000, 100, -19970, 10000, -19993)}, {long, strips(strip(10000, 10000, 7)), contour(0, 10, 50, -100000, 100, 30, 10000, 0)},
	} {
		if l, e := flat.Worn(x.c, x.l); !alike(l, x.want) || e != api.OK {
			t.Error(i, l, e)
		}
	}
}

func TestP7_6WornErrors(t *testing.T) {
	var c []api.FlatPoint
	l := make([]api.FlatStrip, 21)
	wantErrors(t, func() api.Errno {
		worn, e := flat.Worn(c, l)
		if e != api.OK && len(worn) != 0 {
			t.Error(worn, e)
		}
		return e
	},
		step{api.ErrShape, func() { c = contour(0, 0, 0, 0) }},
		step{api.ErrOrder, func() { c = exampleContour(); l[0] = strip(-1, 10001, -1) }},
		step{api.ErrLarge, func() { l = l[:20] }},
		step{api.ErrRange, func() { l[0].Edges.Lo = 10000; l[1].Edges.Lo = 10001 }},
		step{api.ErrRange, func() { l[0].Edges.Hi = 9999 }},
		step{api.ErrOrder, func() { l[0].Edges.Lo = 0 }},
		step{api.ErrRange, func() { l[0].Wear = 1001 }},
		step{api.ErrRange, func() { l[0].Wear = 1000 }},
		step{api.ErrRange, func() { l[1] = strip(10000, 0, 1001) }},
		step{api.ErrOrder, func() { l[1].Edges.Hi = 10000; l[19] = strip(0, 0, -1) }},
		step{api.ErrRange, func() { l[1].Wear = 0; l[18] = strip(3, 2, 0) }},
		step{api.ErrOrder, func() { l[18].Edges.Hi = 3 }},
		step{api.ErrRange, func() { l[19].Wear = 0 }},
	)
	for i, s := range []api.FlatStrip{strip(math.MinInt, 5, 5), strip(5, math.MaxInt, 5), strip(5, 5, math.MinInt), strip(5, 5, math.MaxInt), strip(0, 10001, 0), strip(-1, 0, 0)} {
		if worn, e := flat.Worn(exampleContour(), strips(s)); len(worn) != 0 || e != api.ErrRange {
			t.Error(i, worn, e)
		}
	}
}

// TestP7_12OrderOfStrips has strips in another order, and looks at all heights.
func TestP7_12OrderOfStrips(t *testing.T) {
	rnd := rand.New(rand.NewSource(712))
	for range 2000 {
		position := []int{20, 10000}[rnd.Intn(2)]
		c, l := randomContour(rnd, position, 100000), randomStrips(rnd, position)
		worn, e := flat.Worn(c, l)
		if !alike(worn, wornByHand(c, l)) || e != api.OK {
			t.Fatal(c, l, worn, e)
		}
		rnd.Shuffle(len(l), func(i, j int) { l[i], l[j] = l[j], l[i] })
		if again, e := flat.Worn(c, l); !alike(again, worn) || e != api.OK {
			t.Fatal(c, l, again, e)
		}
		for i, p := range worn {
			if p.At != c[i].At || p.Height > c[i].Height {
				t.Fatal(c, l, worn)
			}
		}
	}
}
