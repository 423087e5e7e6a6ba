package furnace_test

import (
	"math/rand"
	"slices"
	"testing"

	"cobble/api"
	"cobble/furnace"
)

func TestP2_4EnclosureOf(t *testing.T) {
	want := []api.Range{ends(554, 567), ends(518, 522), ends(608, 635)}
	if l, e := furnace.EnclosureOf(exampleRules(), exampleSlab(), route(1500, 1)); e != api.OK || !slices.Equal(l, want) {
		t.Error("example 3", l, e)
	}
	self := []api.Range{ends(500, 500), ends(500, 500), ends(500, 500)}
	for _, l := range [][]api.FurnaceZone{nil, route(1500, 0), route(1500, 0, 20000, 0)} {
		if l, e := furnace.EnclosureOf(exampleRules(), exampleSlab(), l); e != api.OK || !slices.Equal(l, self) {
			t.Error("without steps", l, e)
		}
	}
	r := exampleRules()
	r.Mix = 0
	// G is 400 or 500 times (50 - 350): the greater emissivity cools more.
	cooled := []api.Range{ends(1425, 1440), ends(1500, 1500), ends(1350, 1380)}
	if l, e := furnace.EnclosureOf(r, slab(500, 1500, 1500, 1500), route(500, 1)); e != api.OK || !slices.Equal(l, cooled) {
		t.Error("a colder furnace", l, e)
	}
}

func TestP2_4EnclosuresAtRandom(t *testing.T) {
	rnd := rand.New(rand.NewSource(9))
	for range 1000 {
		r, s := randomRules(rnd), randomSlab(rnd)
		x := randomRoute(rnd, rnd.Intn(6), 20)
		l, e := furnace.EnclosureOf(r, s, x)
		if e != api.OK || !slices.Equal(l, enclosedByHand(r, s, x)) {
			t.Fatal(r, s, x, l, e)
		}
	}
}

func TestP2_4EnclosureErrors(t *testing.T) {
	r, s, l := api.FurnaceRules{}, slab(-1), route(0, -1, 0, 0, 0, 0, 0, 0, 0, 0, 0, 0)
	wantErrors(t, func() api.Errno {
		_, e := furnace.EnclosureOf(r, s, l)
		return e
	},
		step{api.ErrShape, func() { r = exampleRules(); r.Emissivity.Hi = 0 }},
		step{api.ErrOrder, func() { r = exampleRules() }},
		step{api.ErrShape, func() { s = exampleSlab(); s.Bottom = -1 }},
		step{api.ErrRange, func() { s = exampleSlab() }},
		step{api.ErrLarge, func() { l = l[:1] }},
		step{api.ErrRange, func() { l[0].Steps = 0 }})
}

// TestP2_11ForEveryEmissivity makes steps with emissivities of the range, each
// with another one.
func TestP2_11ForEveryEmissivity(t *testing.T) {
	rnd := rand.New(rand.NewSource(10))
	for range 2000 {
		r, s := randomRules(rnd), randomSlab(rnd)
		x := randomRoute(rnd, 1+rnd.Intn(3), 6)
		l, e := furnace.EnclosureOf(r, s, x)
		if e != api.OK {
			t.Fatal(e)
		}
		for range 5 {
			hot := s
			for _, z := range x {
				for range z.Steps {
					hot = mustHeat(t, r, hot, randomFrom(rnd, r.Emissivity.Lo, r.Emissivity.Hi), z.Set)
				}
			}
			for i, n := range hot.Nodes {
				if n < l[i].Lo || n > l[i].Hi {
					t.Fatal(r, s, x, hot, l)
				}
			}
		}
	}
}

func TestP2_4IsReady(t *testing.T) {
	// The enclosure is 554 to 567, 518 to 522, 608 to 635.
	for target, want := range map[api.Range]int{
		ends(510, 640):   api.AnswerYes,
		ends(518, 635):   api.AnswerYes,
		ends(0, 20000):   api.AnswerYes,
		ends(519, 635):   api.AnswerMaybe,
		ends(518, 634):   api.AnswerMaybe,
		ends(522, 608):   api.AnswerMaybe,
		ends(520, 640):   api.AnswerMaybe,
		ends(523, 635):   api.AnswerNo,
		ends(518, 607):   api.AnswerNo,
		ends(560, 640):   api.AnswerNo,
		ends(0, 0):       api.AnswerNo,
		ends(600, 600):   api.AnswerNo,
		ends(610, 20000): api.AnswerNo,
		// Only the node in the middle has nothing in common.
		ends(530, 640): api.AnswerNo,
		// Only the last node has nothing in common, after two that have.
		ends(518, 567): api.AnswerNo,
	} {
		g := api.FurnaceGoal{Route: route(1500, 1), Target: target}
		if a, e := furnace.IsReady(exampleRules(), exampleSlab(), g); e != api.OK || a != want {
			t.Errorf("%v: %v %v in place of %v", target, a, e, want)
		}
	}
}

func randomGoal(rnd *rand.Rand, r api.FurnaceRules, s api.FurnaceSlab) api.FurnaceGoal {
	g := api.FurnaceGoal{Route: randomRoute(rnd, 1+rnd.Intn(4), 10)}
	hull := hullOf(enclosedByHand(r, s, g.Route))
	lo, hi := hull.Lo+rnd.Intn(60)-30, hull.Hi+rnd.Intn(60)-30
	lo, hi = max(0, min(lo, hi)), min(20000, max(lo, hi))
	g.Target = ends(min(lo, 20000), max(hi, 0))
	return g
}

func TestP2_4ReadyAtRandom(t *testing.T) {
	rnd := rand.New(rand.NewSource(11))
	count := map[int]int{}
	for range 3000 {
		r, s := randomRules(rnd), randomSlab(rnd)
		if rnd.Intn(2) == 0 {
			r, s, _ = heatedCase(rnd)
		}
		g := randomGoal(rnd, r, s)
		a, e := furnace.IsReady(r, s, g)
		if e != api.OK || a != answerByHand(enclosedByHand(r, s, g.Route), g.Target) {
			t.Fatal(r, s, g, a, e)
		}
		count[a]++
	}
	if min(count[api.AnswerNo], count[api.AnswerMaybe], count[api.AnswerYes]) < 100 {
		t.Error("answers are rare", count)
	}
}

// TestP2_5GoalErrors covers those of P2.4's IsReady, too.
func TestP2_5GoalErrors(t *testing.T) {
	r, s := api.FurnaceRules{}, slab(-1)
	g := api.FurnaceGoal{Route: route(0, -1, 0, 0, 0, 0, 0, 0, 0, 0, 0, 0), Target: ends(20000, -1)}
	call := func() api.Errno {
		a, e := furnace.IsReady(r, s, g)
		n, f := furnace.EarliestOf(r, s, g)
		m, h := furnace.MaxDelay(r, s, g)
		if e != f || e != h || e != api.OK && (a != 0 || n != 0 || m != 0) {
			t.Errorf("%v %v %v", e, f, h)
		}
		return e
	}
	wantErrors(t, call,
		step{api.ErrShape, func() { r = exampleRules(); r.Emissivity.Hi = 0 }},
		step{api.ErrOrder, func() { r = exampleRules() }},
		step{api.ErrShape, func() { s = exampleSlab(); s.Bottom = -1 }},
		step{api.ErrRange, func() { s = exampleSlab() }},
		step{api.ErrLarge, func() { g.Route = g.Route[:1] }},
		step{api.ErrRange, func() { g.Route = nil }},
		step{api.ErrShape, func() { g.Route = route(500, 0) }},
		step{api.ErrRange, func() { g.Target.Hi = 20001 }},
		step{api.ErrRange, func() { g.Target.Hi = 19999 }},
		step{api.ErrOrder, func() { g.Target = ends(-1, 600) }},
		step{api.ErrRange, func() { g.Target = ends(20001, 600) }},
		step{api.ErrRange, func() { g.Target = ends(500, 500) }})
	g.Target = ends(0, 20000)
	if e := call(); e != api.OK {
		t.Error(e)
	}
}

func TestP2_5EarliestOf(t *testing.T) {
	still := exampleRules()
	still.Emissivity = ends(0, 0)
	for _, c := range []struct {
		name  string
		rules api.FurnaceRules
		slab  api.FurnaceSlab
		goal  api.FurnaceGoal
		n     int
		want  api.Errno
	}{
		{"ready after one further step", exampleRules(), exampleSlab(), api.FurnaceGoal{Route: route(1500, 0), Target: ends(510, 640)}, 1, api.OK},
		{"ready at once", exampleRules(), exampleSlab(), api.FurnaceGoal{Route: route(1500, 1), Target: ends(510, 640)}, 0, api.OK},
		{"ready without any steps", exampleRules(), exampleSlab(), api.FurnaceGoal{Route: route(1500, 0), Target: ends(500, 500)}, 0, api.OK},
		{"too hot for good", exampleRules(), exampleSlab(), api.FurnaceGoal{Route: route(1500, 2), Target: ends(510, 560)}, 0, api.ErrNone},
		{"nothing changes", still, exampleSlab(), api.FurnaceGoal{Route: route(1500, 2), Target: ends(501, 560)}, 0, api.ErrNone},
		{"the last zone counts, and not the first one", exampleRules(), exampleSlab(), api.FurnaceGoal{Route: route(20000, 0, 500, 3), Target: ends(501, 600)}, 0, api.ErrNone},
	} {
		if n, e := furnace.EarliestOf(c.rules, c.slab, c.goal); n != c.n || e != c.want {
			t.Errorf("%s: %d %v in place of %d %v", c.name, n, e, c.n, c.want)
		}
	}
}

// steady is a slab that gets warmer by 1 in each step for a long time.
func steady() (api.FurnaceRules, api.FurnaceSlab) {
	return api.FurnaceRules{Table: tableOf(0, 0, 1000, 0, 11000, 1000), Mix: 0, Emissivity: ends(1, 1)}, slab(1000, 0, 0)
}

func TestP2_5AtMostMaxFurnaceDelay(t *testing.T) {
	r, s := steady()
	g := api.FurnaceGoal{Route: route(20000, 10), Target: ends(210, 20000)}
	if n, e := furnace.EarliestOf(r, s, g); n != 200 || e != api.OK {
		t.Error(n, e)
	}
	g.Target.Lo = 211
	if n, e := furnace.EarliestOf(r, s, g); n != 0 || e != api.ErrNone {
		t.Error(n, e)
	}
	for hi, want := range map[int]int{10: 0, 11: 1, 208: 198, 209: 199, 210: 200, 211: 200, 20000: 200} {
		g.Target = ends(10, hi)
		if n, e := furnace.MaxDelay(r, s, g); n != want || e != api.OK {
			t.Error(hi, n, e)
		}
	}
	for _, target := range []api.Range{ends(0, 9), ends(11, 20000)} {
		g.Target = target
		if n, e := furnace.MaxDelay(r, s, g); n != 0 || e != api.ErrRefused {
			t.Error(target, n, e)
		}
	}
	// 200 steps of the last zone may be followed by 200 further ones.
	g = api.FurnaceGoal{Route: route(20000, 200, 20000, 200), Target: ends(600, 600)}
	if n, e := furnace.EarliestOf(r, s, g); n != 200 || e != api.OK {
		t.Error(n, e)
	}
}

func TestP2_5MaybeIsNotYes(t *testing.T) {
	r, s := steady()
	r.Emissivity = ends(1, 2)
	// After n steps the ranges are n to 2 n.
	g := api.FurnaceGoal{Route: route(20000, 3), Target: ends(3, 10)}
	if n, e := furnace.MaxDelay(r, s, g); n != 2 || e != api.OK {
		t.Error(n, e)
	}
	g.Target = ends(4, 7)
	if n, e := furnace.EarliestOf(r, s, g); n != 0 || e != api.ErrNone {
		t.Error(n, e)
	}
	g.Target = ends(5, 10)
	if n, e := furnace.EarliestOf(r, s, g); n != 2 || e != api.OK {
		t.Error(n, e)
	}
	if n, e := furnace.MaxDelay(r, s, g); n != 0 || e != api.ErrRefused {
		t.Error(n, e)
	}
}

// TestP2_5AtRandom asks for each number of further steps on a route with one more
// zone.
func TestP2_5AtRandom(t *testing.T) {
	rnd := rand.New(rand.NewSource(12))
	found, kept := 0, 0
	for range 150 {
		r, s, _ := heatedCase(rnd)
		g := randomGoal(rnd, r, s)
		now := hullOf(enclosedByHand(r, s, g.Route))
		later := append(slices.Clone(g.Route), api.FurnaceZone{Set: g.Route[len(g.Route)-1].Set, Steps: rnd.Intn(40)})
		then := hullOf(enclosedByHand(r, s, later))
		switch rnd.Intn(3) {
		case 0: // ready some steps later
			g.Target = then
		case 1: // ready for some steps
			g.Target = ends(min(now.Lo, then.Lo), max(now.Hi, then.Hi))
		}
		var answers []int
		for n := range 201 {
			longer := append(slices.Clone(g.Route), api.FurnaceZone{Set: g.Route[len(g.Route)-1].Set, Steps: n})
			a, e := furnace.IsReady(r, s, api.FurnaceGoal{Route: longer, Target: g.Target})
			if e != api.OK {
				t.Fatal(e)
			}
			answers = append(answers, a)
		}
		first := slices.Index(answers, api.AnswerYes)
		n, e := furnace.EarliestOf(r, s, g)
		if first < 0 && (e != api.ErrNone || n != 0) || first >= 0 && (e != api.OK || n != first) {
			t.Fatal(r, s, g, n, e, answers)
		}
		longest := slices.IndexFunc(answers, func(a int) bool { return a != api.AnswerYes }) - 1
		if longest == -2 {
			longest = 200
		}
		m, f := furnace.MaxDelay(r, s, g)
		if longest < 0 && (f != api.ErrRefused || m != 0) || longest >= 0 && (f != api.OK || m != longest) {
			t.Fatal(r, s, g, m, f, answers)
		}
		if first > 0 {
			found++
		}
		if longest > 0 && longest < 200 {
			kept++
		}
	}
	if found < 10 || kept < 10 {
		t.Error("few cases", found, kept)
	}
}
