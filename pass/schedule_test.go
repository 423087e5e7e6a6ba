package pass_test

import (
	"math/big"
	"math/rand"
	"slices"
	"testing"

	"cobble/api"
	"cobble/pass"
)

func TestP3_2ReductionsOf(t *testing.T) {
	thick := freeRules(1000, 1, 6)
	for i, x := range []struct {
		r    api.PassRules
		l    []int
		want []api.Frac
	}{
		{firstRules(), []int{80, 60}, []api.Frac{frac(1, 5), frac(1, 4)}},
		{exampleRules(), []int{100, 60}, []api.Frac{frac(0, 1), frac(2, 5)}},
		{exampleRules(), []int{60, 60}, []api.Frac{frac(2, 5), frac(0, 1)}},
		{exampleRules(), []int{99, 60}, []api.Frac{frac(1, 100), frac(13, 33)}},
		{thick, []int{999, 500, 500, 250, 2, 1}, []api.Frac{frac(1, 1000), frac(499, 999), frac(0, 1), frac(1, 2), frac(124, 125), frac(1, 2)}},
		{freeRules(7, 7, 1), []int{7}, []api.Frac{frac(0, 1)}},
	} {
		if l, e := pass.ReductionsOf(x.r, schedule(x.l...)); e != api.OK || !slices.Equal(l, x.want) {
			t.Error(i, l, e)
		}
	}
}

func TestP3_2LengthsOf(t *testing.T) {
	thick := freeRules(1000, 1, 3)
	for i, x := range []struct {
		r      api.PassRules
		l      []int
		length int
		want   []api.Frac
		err    api.Errno
	}{
		{firstRules(), []int{80, 60}, 300, []api.Frac{frac(375, 1), frac(500, 1)}, api.OK},
		{firstRules(), []int{80, 60}, 1, []api.Frac{frac(5, 4), frac(5, 3)}, api.OK},
		{firstRules(), []int{100, 60}, 7, []api.Frac{frac(7, 1), frac(35, 3)}, api.OK},
		{thick, []int{1000, 999, 1}, 1000000, []api.Frac{frac(1000000, 1), frac(1000000000, 999), frac(1000000000, 1)}, api.OK},
		{thick, []int{1000, 999, 1}, 1000001, nil, api.ErrRange}, {thick, []int{1000, 999, 1}, 0, nil, api.ErrRange}, {thick, []int{1000, 999, 1}, -3, nil, api.ErrRange},
	} {
		if l, e := pass.LengthsOf(x.r, schedule(x.l...), x.length); e != x.err || !slices.Equal(l, x.want) {
			t.Error(i, l, e)
		}
	}
}

// TestP3_3Examples covers what the chapter says of forces, torques and heats.
func TestP3_3Examples(t *testing.T) {
	slippery := exampleRules()
	slippery.Friction = ends(0, 3)
	for i, x := range []struct {
		r               api.PassRules
		forces, torques []api.Range
	}{
		{firstRules(), []api.Range{ends(18400, 36600), ends(14400, 28600)}, []api.Range{ends(368000, 732000), ends(288000, 572000)}},
		{slippery, []api.Range{ends(400, 6000), ends(400, 4800)}, []api.Range{ends(8000, 120000), ends(8000, 96000)}},
		{exampleRules(), []api.Range{ends(13000, 15000), ends(10200, 11800)}, []api.Range{ends(260000, 300000), ends(204000, 236000)}},
	} {
		if l, e := pass.ForcesOf(x.r, exampleSchedule()); e != api.OK || !slices.Equal(l, x.forces) {
			t.Error(i, l, e)
		}
		if l, e := pass.TorquesOf(x.r, exampleSchedule()); e != api.OK || !slices.Equal(l, x.torques) {
			t.Error(i, l, e)
		}
	}
	want := []api.Span{{Lo: frac(49502, 5), Hi: frac(50003, 5)}, {Lo: frac(49004, 5), Hi: frac(50006, 5)}}
	if l, e := pass.HeatsOf(exampleRules(), exampleSchedule()); e != api.OK || !slices.Equal(l, want) {
		t.Error(l, e)
	}
}

func TestP3_3OpenStands(t *testing.T) {
	r := firstRules()
	s := schedule(100, 60)
	if l, e := pass.ForcesOf(r, s); e != api.OK || l[0] != ends(0, 0) || l[1].Lo == 0 {
		t.Error(l, e)
	}
	if l, e := pass.TorquesOf(r, s); e != api.OK || l[0] != ends(0, 0) || l[1].Lo == 0 {
		t.Error(l, e)
	}
	if l, e := pass.HeatsOf(r, s); e != api.OK || l[0] != (api.Span{Lo: frac(9900, 1), Hi: frac(10000, 1)}) {
		t.Error(l, e)
	}
}

// TestP3_3Heats has temperatures below 0, of 0, that rise, and at the limits.
func TestP3_3Heats(t *testing.T) {
	r := freeRules(1000, 1, 6)
	r.Stress, r.Heat = ends(1, 100), ends(20000, 20000)
	s := schedule(1, 1, 1, 1, 1, 1)
	l, e := pass.HeatsOf(r, s)
	if want := (api.Span{Lo: frac(2000999, 100), Hi: frac(20999, 1)}); e != api.OK || !slices.Equal(l, slices.Repeat([]api.Span{want}, 6)) {
		t.Error(l, e)
	}
	r.Heat = ends(0, 0)
	for i := range r.Stands {
		r.Stands[i].Loss = ends(999, 1000)
	}
	l, e = pass.HeatsOf(r, s)
	if e != api.OK || l[0] != (api.Span{Lo: frac(-99001, 100), Hi: frac(0, 1)}) || l[5] != (api.Span{Lo: frac(-599001, 100), Hi: frac(-4995, 1)}) {
		t.Error(l, e)
	}
}

// TestP3_3ByHand compares with all materials at the ends of the ranges.
func TestP3_3ByHand(t *testing.T) {
	rnd := rand.New(rand.NewSource(33))
	for range 30 {
		r := randomRules(rnd)
		s := randomSchedule(rnd, r)
		forces, e := pass.ForcesOf(r, s)
		torques, f := pass.TorquesOf(r, s)
		heats, g := pass.HeatsOf(r, s)
		if e != api.OK || f != api.OK || g != api.OK {
			t.Fatal(r, s, e, f, g)
		}
		for at := range s.Thicknesses {
			over := func(of func(l load) *big.Rat) api.Span {
				lo, hi := rangeOver(r, func(x api.PassMaterial) *big.Rat { return of(loadsByHand(r, s, x)[at]) })
				return api.Span{Lo: fracOf(lo), Hi: fracOf(hi)}
			}
			if w := over(func(l load) *big.Rat { return l.force }); forces[at] != ends(w.Lo.Num, w.Hi.Num) {
				t.Fatal("force", r, s, at, forces, w)
			}
			if w := over(func(l load) *big.Rat { return l.torque }); torques[at] != ends(w.Lo.Num, w.Hi.Num) {
				t.Fatal("torque", r, s, at, torques, w)
			}
			if w := over(func(l load) *big.Rat { return l.heat }); heats[at] != w {
				t.Fatal("heat", r, s, at, heats, w)
			}
		}
	}
}

// TestP3_3Largest is the greatest force and torque that valid rules have.
func TestP3_3Largest(t *testing.T) {
	r := freeRules(1000, 1, 1)
	r.Width, r.Stress = 2500, ends(100, 100)
	if l, e := pass.ForcesOf(r, schedule(1)); e != api.OK || l[0] != ends(500000000, 500000000) {
		t.Error(l, e)
	}
	if l, e := pass.TorquesOf(r, schedule(1)); e != api.OK || l[0] != ends(499500000000, 499500000000) {
		t.Error(l, e)
	}
	if l, e := pass.MarginsOf(r, schedule(1), api.PassTorque); e != api.OK || l[0] != ends(50050000000000, 50050000000000) {
		t.Error(l, e)
	}
}

func TestP3_4MarginsOf(t *testing.T) {
	slippery, cold := exampleRules(), exampleRules()
	slippery.Friction = ends(0, 3)
	cold.Heat, cold.Coldest = ends(9000, 9001), 9500
	for i, x := range []struct {
		r     api.PassRules
		l     []int
		limit int
		want  []api.Range
	}{
		{firstRules(), []int{80, 60}, api.PassForce, []api.Range{ends(-2660000, -840000), ends(-1860000, -440000)}},
		{firstRules(), []int{80, 60}, api.PassTorque, []api.Range{ends(-33200000, 3200000), ends(-17200000, 11200000)}},
		{slippery, []int{80, 60}, api.PassBite, []api.Range{ends(-2000, -1100), ends(-2000, -1100)}},
		{exampleRules(), []int{80, 60}, api.PassForce, []api.Range{ends(500000, 700000), ends(820000, 980000)}},
		{exampleRules(), []int{80, 60}, api.PassTorque, []api.Range{ends(10000000, 14000000), ends(16400000, 19600000)}},
		{exampleRules(), []int{80, 60}, api.PassBite, []api.Range{ends(100, 400), ends(100, 400)}},
		{exampleRules(), []int{80, 60}, api.PassCold, []api.Range{ends(90040, 100060), ends(80080, 100120)}},
		{exampleRules(), []int{100, 60}, api.PassForce, []api.Range{ends(2000000, 2000000), ends(600000, 800000)}},
		{exampleRules(), []int{100, 60}, api.PassTorque, []api.Range{ends(40000000, 40000000), ends(-16000000, -8000000)}},
		{exampleRules(), []int{100, 60}, api.PassBite, []api.Range{ends(0, 0), ends(-1900, -1600)}},
		{cold, []int{100, 60}, api.PassCold, []api.Range{ends(-60000, -49900), ends(-69920, -49780)}},
	} {
		if l, e := pass.MarginsOf(x.r, schedule(x.l...), x.limit); e != api.OK || !slices.Equal(l, x.want) {
			t.Error(i, l, e)
		}
	}
	for _, limit := range []int{-1, 4, 100, -9223372036854775808} {
		if l, e := pass.MarginsOf(exampleRules(), exampleSchedule(), limit); e != api.ErrKind || len(l) != 0 {
			t.Error(limit, l, e)
		}
	}
	if _, e := pass.MarginsOf(exampleRules(), schedule(80), 4); e != api.ErrShape {
		t.Error(e)
	}
}

func TestP3_4MarginsByHand(t *testing.T) {
	rnd := rand.New(rand.NewSource(34))
	for range 20 {
		r := randomRules(rnd)
		s := randomSchedule(rnd, r)
		for limit := range api.PassLimits {
			l, e := pass.MarginsOf(r, s, limit)
			if e != api.OK {
				t.Fatal(r, s, e)
			}
			for at := range s.Thicknesses {
				lo, hi := marginsByHand(r, s, at, limit)
				want := ends(wholeOf(t, product(whole(100), lo)), wholeOf(t, product(whole(100), hi)))
				if l[at] != want {
					t.Fatal(r, s, limit, at, l, want)
				}
			}
		}
	}
}

func TestP3_4Answers(t *testing.T) {
	slippery, cold, mild := exampleRules(), exampleRules(), exampleRules()
	slippery.Friction = ends(0, 3)
	cold.Coldest = 10001
	mild.Coldest = 9950
	for i, x := range []struct {
		r      api.PassRules
		l      []int
		answer int
		weak   api.PassBlock
	}{
		{firstRules(), []int{80, 60}, api.AnswerNo, block(0, api.PassForce, api.PassTorque)},
		{slippery, []int{80, 60}, api.AnswerNo, block(0, api.PassBite)},
		{slippery, []int{100, 60}, api.AnswerNo, block(1, api.PassBite)},
		{exampleRules(), []int{80, 60}, api.AnswerYes, api.PassBlock{}},
		{exampleRules(), []int{81, 60}, api.AnswerYes, api.PassBlock{}},
		{exampleRules(), []int{79, 60}, api.AnswerYes, api.PassBlock{}},
		{exampleRules(), []int{90, 60}, api.AnswerNo, block(1, api.PassBite)},
		{exampleRules(), []int{82, 60}, api.AnswerMaybe, block(1, api.PassBite)},
		{exampleRules(), []int{78, 60}, api.AnswerMaybe, block(0, api.PassBite)},
		{exampleRules(), []int{100, 60}, api.AnswerNo, block(1, api.PassTorque, api.PassBite)},
		{exampleRules(), []int{60, 60}, api.AnswerNo, block(0, api.PassTorque, api.PassBite)},
		{cold, []int{80, 60}, api.AnswerNo, block(0, api.PassCold)},
		{mild, []int{80, 60}, api.AnswerMaybe, block(0, api.PassCold)},
	} {
		s := schedule(x.l...)
		if n, e := pass.HoldsFor(x.r, s); e != api.OK || n != x.answer {
			t.Error(i, n, e)
		}
		want := api.OK
		if len(x.weak.Limits) == 0 {
			want = api.ErrNone
		}
		if b, e := pass.WeakestOf(x.r, s); e != want || !alikeBlocks(b, x.weak) {
			t.Error(i, b, e)
		}
	}
}

// TestP3_4ExactLimits has loads and temperatures of exactly what is permitted.
func TestP3_4ExactLimits(t *testing.T) {
	r := exampleRules()
	r.Stands[0] = stand(286, 15000, 300000, 0, 100)
	r.Stands[1] = stand(286, 11800, 236000, 0, 100)
	// The least bite is 7 286/100 - 20 = 2/100.
	r.Heat = ends(10000, 10000)
	r.Coldest = 9800
	if n, e := pass.HoldsFor(r, exampleSchedule()); e != api.OK || n != api.AnswerYes {
		t.Error(n, e)
	}
	for i, x := range []struct {
		change func(r *api.PassRules)
		at     int
		limit  int
	}{
		{func(r *api.PassRules) { r.Stands[0].Force-- }, 0, api.PassForce},
		{func(r *api.PassRules) { r.Stands[1].Force-- }, 1, api.PassForce},
		{func(r *api.PassRules) { r.Stands[0].Torque-- }, 0, api.PassTorque},
		{func(r *api.PassRules) { r.Stands[1].Torque-- }, 1, api.PassTorque},
		{func(r *api.PassRules) { r.Stands[0].Radius-- }, 0, api.PassBite},
		{func(r *api.PassRules) { r.Stands[1].Radius-- }, 1, api.PassBite},
		{func(r *api.PassRules) { r.Coldest++ }, 1, api.PassCold},
		{func(r *api.PassRules) { r.Stands[1].Loss.Hi++ }, 1, api.PassCold},
		{func(r *api.PassRules) { r.Stands[0].Loss.Hi++ }, 1, api.PassCold},
		{func(r *api.PassRules) { r.Heat.Lo-- }, 1, api.PassCold},
	} {
		c := copyRules(r)
		x.change(&c)
		if b, e := pass.WeakestOf(c, exampleSchedule()); e != api.OK || !alikeBlocks(b, block(x.at, x.limit)) {
			t.Error(i, b, e)
		}
		if n, e := pass.HoldsFor(c, exampleSchedule()); e != api.OK || n != api.AnswerMaybe {
			t.Error(i, n, e)
		}
	}
	bite := exampleRules()
	bite.Friction, bite.Stands[0].Radius, bite.Stands[1].Radius = ends(10, 10), 200, 200
	bite.Stands[0].Torque, bite.Stands[1].Torque = 1000000, 1000000
	if l, e := pass.MarginsOf(bite, exampleSchedule(), api.PassBite); e != api.OK || l[0] != ends(0, 0) {
		t.Error(l, e)
	}
	if n, e := pass.HoldsFor(bite, exampleSchedule()); e != api.OK || n != api.AnswerYes {
		t.Error(n, e)
	}
}

func TestP3_4EdgeCases(t *testing.T) {
	r := exampleRules()
	r.Start, r.Coldest = 60, 9801
	if n, e := pass.HoldsFor(r, schedule(60, 60)); e != api.OK || n != api.AnswerMaybe {
		t.Error("the temperature falls at open stands", n, e)
	}
	if b, e := pass.WeakestOf(r, schedule(60, 60)); e != api.OK || !alikeBlocks(b, block(1, api.PassCold)) {
		t.Error(b, e)
	}
	r.Coldest, r.Friction = 9800, ends(0, 0)
	r.Stands[0] = stand(1, 0, 0, 0, 100)
	if n, e := pass.HoldsFor(r, schedule(60, 60)); e != api.OK || n != api.AnswerYes {
		t.Error("an open stand bears nothing", n, e)
	}
	r = freeRules(100, 60, 2)
	r.Friction = ends(0, 0)
	if b, e := pass.WeakestOf(r, schedule(100, 60)); e != api.OK || !alikeBlocks(b, block(1, api.PassBite)) {
		t.Error("no friction, no grip", b, e)
	}
	r = freeRules(100, 60, 1)
	r.Coldest, r.Stress, r.Heat = 19999, ends(3, 100), ends(19998, 19998)
	if n, e := pass.HoldsFor(r, schedule(60)); e != api.OK || n != api.AnswerYes {
		t.Error("the temperature rises", n, e)
	}
	if l, e := pass.HeatsOf(r, schedule(60)); e != api.OK || l[0] != (api.Span{Lo: frac(99996, 5), Hi: frac(20038, 1)}) {
		t.Error(l, e)
	}
}

func TestP3_4AnswersByHand(t *testing.T) {
	rnd := rand.New(rand.NewSource(340))
	var answers [3]int
	var limits [api.PassLimits]int
	for range 150 {
		r, s, _ := tightCase(rnd, 1+rnd.Intn(3))
		want := answerByHand(r, s)
		answers[want]++
		if n, e := pass.HoldsFor(r, s); e != api.OK || n != want {
			t.Fatal(r, s, n, want, e)
		}
		weak, is := weakestByHand(r, s)
		for _, limit := range weak.Limits {
			limits[limit]++
		}
		b, e := pass.WeakestOf(r, s)
		if (e == api.OK) != is || !is && e != api.ErrNone || !alikeBlocks(b, weak) {
			t.Fatal(r, s, b, e, weak)
		}
	}
	if slices.Contains(answers[:], 0) || slices.Contains(limits[:], 0) {
		t.Error("not all answers and limits occurred", answers, limits)
	}
}

func TestP3_5Rolled(t *testing.T) {
	slow := exampleRules()
	slow.Stands[1].Loss = ends(0, 1000)
	for i, x := range []struct {
		r    api.PassRules
		l    []int
		m    api.PassMaterial
		want []api.Frac
		is   bool
	}{
		{exampleRules(), []int{80, 60}, exampleMaterial(), []api.Frac{frac(49752, 5), frac(49504, 5)}, true},
		{exampleRules(), []int{80, 60}, material(3, 7, 10000, 0, 100), []api.Frac{frac(50003, 5), frac(49506, 5)}, true},
		{exampleRules(), []int{78, 60}, material(2, 8, 10000, 0, 0), []api.Frac{frac(250011, 25), frac(50004, 5)}, true},
		{exampleRules(), []int{78, 60}, material(2, 7, 10000, 0, 0), []api.Frac{frac(250011, 25), frac(50004, 5)}, false},
		{exampleRules(), []int{100, 60}, material(2, 8, 10000, 50, 0), []api.Frac{frac(9950, 1), frac(49754, 5)}, false},
		{firstRules(), []int{80, 60}, material(2, 10, 10000, 0, 0), []api.Frac{frac(50002, 5), frac(50004, 5)}, false},
		{slow, []int{80, 60}, material(2, 8, 10000, 0, 1000), []api.Frac{frac(50002, 5), frac(45004, 5)}, true},
		{slow, []int{80, 60}, material(2, 8, 10000, 100, 1000), []api.Frac{frac(49502, 5), frac(44504, 5)}, false},
	} {
		if l, is, e := pass.Rolled(x.r, schedule(x.l...), x.m); e != api.OK || is != x.is || !slices.Equal(l, x.want) {
			t.Error(i, l, is, e)
		}
	}
	zero := freeRules(5, 5, 2)
	zero.Heat, zero.Stands[0].Loss, zero.Stands[1].Loss = ends(3, 3), ends(3, 3), ends(2, 4)
	if l, is, e := pass.Rolled(zero, schedule(5, 5), material(1, 100, 3, 3, 4)); e != api.OK || is || !slices.Equal(l, []api.Frac{frac(0, 1), frac(-4, 1)}) {
		t.Error(l, is, e)
	}
}

func TestP3_5RolledErrors(t *testing.T) {
	r, s, m := exampleRules(), schedule(80), material(1, 8, 10000, 50)
	r.Width = 0
	wantErrors(t, func() api.Errno { _, _, e := pass.Rolled(r, s, m); return e },
		step{api.ErrRange, func() { r.Width = 10 }},
		step{api.ErrShape, func() { s = schedule(80, 61) }},
		step{api.ErrGap, func() { s = exampleSchedule() }},
		step{api.ErrRange, func() { m.Stress = 2 }},
		step{api.ErrShape, func() { m.Losses = []int{50, 101} }},
		step{api.ErrRange, func() { m.Losses[1] = 100 }})
}

func TestP3_5RolledByHand(t *testing.T) {
	rnd := rand.New(rand.NewSource(35))
	kept := map[bool]int{}
	for range 400 {
		r, s, _ := tightCase(rnd, 1+rnd.Intn(3))
		x := randomMaterial(rnd, r)
		var want []api.Frac
		for _, l := range loadsByHand(r, s, x) {
			want = append(want, fracOf(l.heat))
		}
		is := keepsByHand(r, s, x)
		kept[is]++
		if l, got, e := pass.Rolled(r, s, x); e != api.OK || got != is || !slices.Equal(l, want) {
			t.Fatal(r, s, x, l, got, e)
		}
	}
	if kept[true] < 50 || kept[false] < 50 {
		t.Error("too few of one kind", kept)
	}
}

func TestP3_6EnergyOf(t *testing.T) {
	slippery := exampleRules()
	slippery.Friction = ends(0, 3)
	for i, x := range []struct {
		r    api.PassRules
		l    []int
		want int
	}{
		{exampleRules(), []int{80, 60}, 536000}, {exampleRules(), []int{81, 60}, 536060}, {firstRules(), []int{80, 60}, 1304000}, {slippery, []int{80, 60}, 216000},
		{exampleRules(), []int{100, 60}, 40 * 10 * (3*40 + 8*160)}, {exampleRules(), []int{60, 60}, 40 * 10 * (3*40 + 8*160)}, {freeRules(9, 9, 6), []int{9, 9, 9, 9, 9, 9}, 0},
	} {
		if n, e := pass.EnergyOf(x.r, schedule(x.l...)); e != api.OK || n != x.want {
			t.Error(i, n, e)
		}
	}
	rnd := rand.New(rand.NewSource(36))
	for range 100 {
		r := randomRules(rnd)
		s := randomSchedule(rnd, r)
		if n, e := pass.EnergyOf(r, s); e != api.OK || n != energiesByHand(r, s) {
			t.Fatal(r, s, n, e)
		}
	}
}

// TestP3_9ConstantVolume multiplies lengths and thicknesses.
func TestP3_9ConstantVolume(t *testing.T) {
	rnd := rand.New(rand.NewSource(39))
	for range 500 {
		r := randomRules(rnd)
		s, length := randomSchedule(rnd, r), randomFrom(rnd, 1, api.MaxPassLength)
		l, e := pass.LengthsOf(r, s, length)
		if e != api.OK || len(l) != len(s.Thicknesses) {
			t.Fatal(r, s, length, l, e)
		}
		for i, h := range s.Thicknesses {
			if want := fracOf(ratio(length*r.Start, h)); l[i] != want || l[i].Num*h != length*r.Start*l[i].Den {
				t.Fatal(r, s, length, l, want)
			}
		}
		reductions, e := pass.ReductionsOf(r, s)
		if e != api.OK {
			t.Fatal(e)
		}
		before := r.Start
		for i, h := range s.Thicknesses {
			if want := fracOf(ratio(before-h, before)); reductions[i] != want {
				t.Fatal(r, s, reductions, want)
			}
			before = h
		}
	}
}

// TestP3_10EveryMaterial rolls materials from the whole ranges.
func TestP3_10EveryMaterial(t *testing.T) {
	rnd := rand.New(rand.NewSource(310))
	var answers [3]int
	for range 300 {
		r, s, _ := tightCase(rnd, 1+rnd.Intn(3))
		answer, e := pass.HoldsFor(r, s)
		if e != api.OK {
			t.Fatal(e)
		}
		answers[answer]++
		var margins [api.PassLimits][]api.Range
		for limit := range api.PassLimits {
			margins[limit], _ = pass.MarginsOf(r, s, limit)
		}
		for range 10 {
			x := randomMaterial(rnd, r)
			_, is, e := pass.Rolled(r, s, x)
			if e != api.OK || answer == api.AnswerYes && !is || answer == api.AnswerNo && is {
				t.Fatal(r, s, x, answer, is, e)
			}
			for at, l := range loadsByHand(r, s, x) {
				for limit, margin := range l.margins(r, at) {
					n := wholeOf(t, product(whole(100), margin))
					if n < margins[limit][at].Lo || n > margins[limit][at].Hi {
						t.Fatal(r, s, x, at, limit, n)
					}
				}
			}
		}
	}
	if slices.Contains(answers[:], 0) {
		t.Error("not all answers occurred", answers)
	}
}

// TestP3_14WiderLimits makes limits wider, or ranges narrower.
func TestP3_14WiderLimits(t *testing.T) {
	rnd := rand.New(rand.NewSource(314))
	held := 0
	for range 500 {
		r, s, _ := tightCase(rnd, 1+rnd.Intn(3))
		if n, _ := pass.HoldsFor(r, s); n != api.AnswerYes {
			continue
		}
		held++
		wider := copyRules(r)
		for i := range wider.Stands {
			wider.Stands[i].Force += rnd.Intn(100)
			wider.Stands[i].Torque += rnd.Intn(100)
			wider.Stands[i].Loss = narrower(rnd, wider.Stands[i].Loss)
		}
		wider.Coldest = max(0, wider.Coldest-rnd.Intn(10))
		wider.Heat, wider.Stress, wider.Friction = narrower(rnd, r.Heat), narrower(rnd, r.Stress), narrower(rnd, r.Friction)
		if n, e := pass.HoldsFor(wider, s); e != api.OK || n != api.AnswerYes {
			t.Fatal(r, wider, s, n, e)
		}
	}
	if held < 50 {
		t.Error("too few schedules held", held)
	}
}

func narrower(rnd *rand.Rand, r api.Range) api.Range {
	lo := randomFrom(rnd, r.Lo, r.Hi)
	return ends(lo, randomFrom(rnd, lo, r.Hi))
}

// TestP3_2To6ScheduleErrors has the errors of the rules and of the schedule in
// each call that is given both.
func TestP3_2To6ScheduleErrors(t *testing.T) {
	calls := map[string]func(r api.PassRules, s api.PassSchedule) api.Errno{
		"ReductionsOf": func(r api.PassRules, s api.PassSchedule) api.Errno { _, e := pass.ReductionsOf(r, s); return e },
		"LengthsOf":    func(r api.PassRules, s api.PassSchedule) api.Errno { _, e := pass.LengthsOf(r, s, 9); return e },
		"ForcesOf":     func(r api.PassRules, s api.PassSchedule) api.Errno { _, e := pass.ForcesOf(r, s); return e },
		"TorquesOf":    func(r api.PassRules, s api.PassSchedule) api.Errno { _, e := pass.TorquesOf(r, s); return e },
		"HeatsOf":      func(r api.PassRules, s api.PassSchedule) api.Errno { _, e := pass.HeatsOf(r, s); return e },
		"MarginsOf":    func(r api.PassRules, s api.PassSchedule) api.Errno { _, e := pass.MarginsOf(r, s, 0); return e },
		"HoldsFor":     func(r api.PassRules, s api.PassSchedule) api.Errno { _, e := pass.HoldsFor(r, s); return e },
		"WeakestOf": func(r api.PassRules, s api.PassSchedule) api.Errno {
			if _, e := pass.WeakestOf(r, s); e != api.ErrNone {
				return e
			}
			return api.OK
		},
		"Rolled": func(r api.PassRules, s api.PassSchedule) api.Errno {
			_, _, e := pass.Rolled(r, s, exampleMaterial())
			return e
		},
		"EnergyOf": func(r api.PassRules, s api.PassSchedule) api.Errno { _, e := pass.EnergyOf(r, s); return e },
	}
	for name, call := range calls {
		r := exampleRules()
		r.Coldest, r.Stands[1].Loss.Lo = -1, 200
		s := api.PassSchedule{Name: "1", Thicknesses: []int{1001}}
		t.Run(name, func(t *testing.T) {
			wantErrors(t, func() api.Errno { return call(r, s) },
				step{api.ErrRange, func() { r.Coldest = 9000 }},
				step{api.ErrOrder, func() { r.Stands[1].Loss.Lo = 0 }},
				step{api.ErrName, func() { s.Name = "a" }},
				step{api.ErrShape, func() { s.Thicknesses = []int{1001, 60} }},
				step{api.ErrRange, func() { s.Thicknesses[0] = 101 }},
				step{api.ErrOrder, func() { s.Thicknesses = []int{80, 61} }},
				step{api.ErrGap, func() { s.Thicknesses[1] = 60 }})
		})
	}
}
