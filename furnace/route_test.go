package furnace_test

import (
	"math"
	"math/rand"
	"slices"
	"strings"
	"testing"

	"cobble/api"
	"cobble/furnace"
)

func TestP2_3CheckRoute(t *testing.T) {
	for _, c := range []struct {
		route []api.FurnaceZone
		at    int
		want  api.Errno
	}{
		{nil, 0, api.OK},
		{route(0, 0), 0, api.OK},
		{route(20000, 200), 0, api.OK},
		{route(20001, 0), 0, api.ErrRange},
		{route(-1, 0), 0, api.ErrRange},
		{route(0, 201), 0, api.ErrRange},
		{route(0, -1), 0, api.ErrRange},
		{route(1, 1, 2, 2, 3, 3, 4, 4, 5, 5), 0, api.OK},
		{route(-1, 1, 2, 2, 3, 3, 4, 4, 5, 5, 6, 6), 0, api.ErrLarge},
		{route(1, 1, 2, 2, 3, 3, 4, 4, -1, 5), 4, api.ErrRange},
		{route(1, 1, 2, 201, 3, -1), 1, api.ErrRange},
	} {
		if at, e := furnace.CheckRoute(c.route); at != c.at || e != c.want {
			t.Errorf("%v: %d %v in place of %d %v", c.route, at, e, c.at, c.want)
		}
	}
}

func run(emissivity int, zones ...int) api.FurnaceRun {
	return api.FurnaceRun{Route: route(zones...), Emissivity: emissivity}
}

func TestP2_3RunOf(t *testing.T) {
	l, e := furnace.RunOf(exampleRules(), exampleSlab(), run(500, 1500, 1, 1500, 0, 1500, 1))
	if e != api.OK || len(l) != 3 {
		t.Fatal(l, e)
	}
	once := slab(500, 567, 522, 635)
	if !alikeSlabs(l[0], once) || !alikeSlabs(l[1], once) {
		t.Error("a zone with 0 steps changes nothing", l)
	}
	twice := mustHeat(t, exampleRules(), once, 500, 1500)
	if !alikeSlabs(l[2], twice) {
		t.Error(l, twice)
	}
	if m, e := furnace.RunOf(exampleRules(), exampleSlab(), run(500, 1500, 2)); e != api.OK || len(m) != 1 || !alikeSlabs(m[0], twice) {
		t.Error(m, e)
	}
	if l, e := furnace.RunOf(exampleRules(), exampleSlab(), run(500)); e != api.OK || len(l) != 0 {
		t.Error("without zones", l, e)
	}
}

// TestP2_3RunOfErrors covers those of P2.4's SkidMark, too.
func TestP2_3RunOfErrors(t *testing.T) {
	r, s, x := api.FurnaceRules{}, slab(-1), run(1001, 0, -1, 0, 0, 0, 0, 0, 0, 0, 0, 0, 0)
	call := func() api.Errno {
		_, e := furnace.RunOf(r, s, x)
		n, f := furnace.SkidMark(r, s, x)
		if e != f || n != 0 && f != api.OK {
			t.Errorf("%v and %d %v", e, n, f)
		}
		return e
	}
	wantErrors(t, call,
		step{api.ErrShape, func() { r = exampleRules(); r.Emissivity.Hi = 0 }},
		step{api.ErrOrder, func() { r = exampleRules() }},
		step{api.ErrShape, func() { s = exampleSlab(); s.Bottom = -1 }},
		step{api.ErrRange, func() { s = exampleSlab() }},
		step{api.ErrLarge, func() { x.Route = x.Route[:5] }},
		step{api.ErrRange, func() { x.Route[0].Steps = 200 }},
		step{api.ErrRange, func() { x.Emissivity = -1 }},
		step{api.ErrRange, func() { x.Emissivity = 1000 }})
	x.Emissivity = 0
	if e := call(); e != api.OK {
		t.Error(e)
	}
}

func TestP2_3RunsAtRandom(t *testing.T) {
	rnd := rand.New(rand.NewSource(5))
	for range 500 {
		r, s := randomRules(rnd), randomSlab(rnd)
		x := api.FurnaceRun{Route: randomRoute(rnd, rnd.Intn(6), 20), Emissivity: randomFrom(rnd, 0, 1000)}
		l, e := furnace.RunOf(r, s, x)
		if e != api.OK || !slices.EqualFunc(l, ranByHand(r, s, x), alikeSlabs) {
			t.Fatal(r, s, x, l, e)
		}
	}
}

// TestP2_10WarmerOnRoutes has warmer slabs and zones on longer ways.
func TestP2_10WarmerOnRoutes(t *testing.T) {
	rnd := rand.New(rand.NewSource(6))
	for range 500 {
		r, s := randomRules(rnd), randomSlab(rnd)
		x := api.FurnaceRun{Route: randomRoute(rnd, 1+rnd.Intn(5), 20), Emissivity: randomFrom(rnd, 0, 1000)}
		warm, hot := slab(s.Bottom), api.FurnaceRun{Emissivity: x.Emissivity}
		for _, n := range s.Nodes {
			warm.Nodes = append(warm.Nodes, min(20000, n+rnd.Intn(2)))
		}
		for _, z := range x.Route {
			hot.Route = append(hot.Route, api.FurnaceZone{Set: min(20000, z.Set+rnd.Intn(2)), Steps: z.Steps})
		}
		a, _ := furnace.RunOf(r, s, x)
		b, _ := furnace.RunOf(r, warm, hot)
		for zone := range x.Route {
			for i := range s.Nodes {
				if a[zone].Nodes[i] > b[zone].Nodes[i] {
					t.Fatal(r, s, warm, x, hot, a, b)
				}
			}
		}
	}
}

func TestP2_12RestOnRoutes(t *testing.T) {
	even := slab(300, 700, 700, 700)
	l, e := furnace.RunOf(exampleRules(), even, run(1000, 700, 200, 700, 200))
	if e != api.OK || !alikeSlabs(l[0], even) || !alikeSlabs(l[1], even) {
		t.Error(l, e)
	}
	r := exampleRules()
	r.Mix = 0
	uneven := slab(300, 100, 900, 20000)
	if l, e := furnace.RunOf(r, uneven, run(0, 5000, 200)); e != api.OK || !alikeSlabs(l[0], uneven) {
		t.Error(l, e)
	}
}

func TestP2_4SkidMark(t *testing.T) {
	for _, c := range []struct {
		name string
		slab api.FurnaceSlab
		run  api.FurnaceRun
		want int
	}{
		{"example 4", exampleSlab(), run(500, 1500, 1), 25},
		{"both sides are alike", slab(1000, 500, 500, 500), run(500, 1500, 1), 0},
		{"no zones", exampleSlab(), run(500), 0},
		{"no steps", exampleSlab(), run(500, 1500, 0), 0},
		{"no heat", exampleSlab(), run(0, 1500, 9), 0},
		// G is 500 times (50 - 350) = -150000: 1350, 1500, 1425 or 1350, 1500, 1350
		// become 1365, 1477, 1432 or 1365, 1470, 1365: 4200 minus 4274 is -74.
		{"a colder furnace has a negative mark, rounded down", slab(500, 1500, 1500, 1500), run(500, 500, 1), -25},
	} {
		if n, e := furnace.SkidMark(exampleRules(), c.slab, c.run); e != api.OK || n != c.want {
			t.Errorf("%s: %d %v in place of %d", c.name, n, e, c.want)
		}
	}
}

func TestP2_4SkidMarksAtRandom(t *testing.T) {
	rnd := rand.New(rand.NewSource(7))
	for range 1000 {
		r, s := randomRules(rnd), randomSlab(rnd)
		x := api.FurnaceRun{Route: randomRoute(rnd, 1+rnd.Intn(5), 10), Emissivity: randomFrom(rnd, 0, 1000)}
		difference := 0
		for bottom, sign := range map[int]int{s.Bottom: -1, 1000: 1} {
			if s.Bottom == 1000 {
				break
			}
			l := ranByHand(r, slab(bottom, s.Nodes...), x)
			for _, n := range l[len(l)-1].Nodes {
				difference += sign * n
			}
		}
		if n, e := furnace.SkidMark(r, s, x); e != api.OK || n != roundedDown(len(s.Nodes), difference) {
			t.Fatal(r, s, x, n, e)
		}
	}
}

func TestP2_9FormatRoute(t *testing.T) {
	for _, c := range []struct {
		route []api.FurnaceZone
		want  string
	}{
		{nil, ""},
		{route(1500, 1, 1200, 20), "1500x1 1200x20"},
		{route(0, 0), "0x0"},
		{route(-7, math.MinInt, math.MaxInt, 0), "-7x-9223372036854775808 9223372036854775807x0"},
		{route(1, 2, 3, 4, 5, 6, 7, 8, 9, 10, 11, 12), "1x2 3x4 5x6 7x8 9x10 11x12"},
	} {
		if s := furnace.FormatRoute(c.route); s != c.want {
			t.Errorf("%q in place of %q", s, c.want)
		}
	}
}

func TestP2_9ParseRoute(t *testing.T) {
	long := strings.Repeat("1x1 ", api.MaxString/4-1) + "1x1"
	for _, c := range []struct {
		s    string
		l    []api.FurnaceZone
		want api.Errno
	}{
		{"", nil, api.OK},
		{"1500x1 1200x20", route(1500, 1, 1200, 20), api.OK},
		{"0x0", route(0, 0), api.OK},
		{"20000x200", route(20000, 200), api.OK},
		{"1x1 2x2 3x3 4x4 5x5", route(1, 1, 2, 2, 3, 3, 4, 4, 5, 5), api.OK},
		{"1x1 2x2 3x3 4x4 5x5 6x6", nil, api.ErrLarge},
		{"1x1 2x2 3x3 4x4 5x5 6x", nil, api.ErrSyntax},
		{"20001x1", nil, api.ErrRange},
		{"1x201", nil, api.ErrRange},
		{"99999x1", nil, api.ErrRange},
		{"1x99999", nil, api.ErrRange},
		{"100000x1", nil, api.ErrSyntax},
		{"1x100000", nil, api.ErrSyntax},
		{"00001x1", nil, api.ErrSyntax},
		{"1x01", nil, api.ErrSyntax},
		{"00x1", nil, api.ErrSyntax},
		{"-1x1", nil, api.ErrSyntax},
		{"-0x1", nil, api.ErrSyntax},
		{"+1x1", nil, api.ErrSyntax},
		{"1x+1", nil, api.ErrSyntax},
		{"1x-1", nil, api.ErrSyntax},
		{" ", nil, api.ErrSyntax},
		{"x", nil, api.ErrSyntax},
		{"1", nil, api.ErrSyntax},
		{"1x", nil, api.ErrSyntax},
		{"x1", nil, api.ErrSyntax},
		{"1X1", nil, api.ErrSyntax},
		{"1x1x1", nil, api.ErrSyntax},
		{"1 x1", nil, api.ErrSyntax},
		{"1x1 ", nil, api.ErrSyntax},
		{" 1x1", nil, api.ErrSyntax},
		{"1x1  2x2", nil, api.ErrSyntax},
		{"1x1\t2x2", nil, api.ErrSyntax},
		{"1x1\n", nil, api.ErrSyntax},
		{"/x1", nil, api.ErrSyntax},
		{":x1", nil, api.ErrSyntax},
		{"1x\xff", nil, api.ErrSyntax},
		{"1x١", nil, api.ErrSyntax},
		{"20001x1 ?", nil, api.ErrSyntax},
		{long + " ", nil, api.ErrSyntax},
		{long, nil, api.ErrLarge},
		{long + " ?", nil, api.ErrLarge},
		{strings.Repeat("?", api.MaxString), nil, api.ErrSyntax},
		{strings.Repeat("?", api.MaxString+1), nil, api.ErrLarge},
	} {
		if l, e := furnace.ParseRoute(c.s); !slices.Equal(l, c.l) || e != c.want {
			t.Errorf("%.40q: %v %v in place of %v %v", c.s, l, e, c.l, c.want)
		}
	}
}

func TestP2_15ParseReversesFormat(t *testing.T) {
	rnd := rand.New(rand.NewSource(8))
	for range 2000 {
		l := randomRoute(rnd, rnd.Intn(6), 200)
		if m, e := furnace.ParseRoute(furnace.FormatRoute(l)); e != api.OK || !slices.Equal(l, m) {
			t.Fatal(l, m, e)
		}
	}
	// What is parsed is formatted as it was: each route has one string.
	for range 20000 {
		s := make([]byte, rnd.Intn(8))
		for i := range s {
			s[i] = "0123x x-"[rnd.Intn(8)]
		}
		if l, e := furnace.ParseRoute(string(s)); e == api.OK && furnace.FormatRoute(l) != string(s) {
			t.Fatal(string(s), l)
		}
	}
}
