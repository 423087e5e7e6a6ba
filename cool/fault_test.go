package cool_test

import (
	"math"
	"math/rand"
	"testing"

	"cobble/api"
	"cobble/cool"
)

func TestP8_6WithFaults(t *testing.T) {
	four := table(0, 0, bank(0, 0, 8), bank(0, 0, 8), bank(0, 0, 8), bank(0, 0, 8))
	for i, x := range []struct {
		t      api.CoolTable
		sets   []int
		faults []api.CoolFault
		want   []int
		err    api.Errno
	}{
		{exampleTable(), exampleSets(), exampleFaults(), numbers(1, 3, 3), api.OK}, {exampleTable(), exampleSets(), nil, exampleSets(), api.OK}, {exampleTable(), numbers(3, 2, 1, 0), faults(closed(1)), numbers(1, 0, 1, 0), api.OK}, {exampleTable(), numbers(3, 2, 1, 0), faults(opened(1), closed(0)), numbers(2, 2, 2, 2), api.OK}, {exampleTable(), repeated(2, 12), faults(opened(1)), repeated(2, 12), api.OK},
		{four, numbers(0, 15, 5, 10), faults(opened(3), closed(0), opened(1), closed(2)), repeated(10, 4), api.OK}, {four, numbers(0, 15, 5, 10), faults(opened(0), opened(2)), numbers(5, 15, 5, 15), api.OK},
		{exampleTable(), nil, nil, nil, api.ErrShape}, {exampleTable(), nil, faults(opened(2)), nil, api.ErrShape}, {exampleTable(), repeated(0, 13), nil, nil, api.ErrLarge}, {exampleTable(), repeated(4, 13), nil, nil, api.ErrLarge},
		{exampleTable(), numbers(0, 4), nil, nil, api.ErrRange}, {exampleTable(), numbers(-1), nil, nil, api.ErrRange}, {exampleTable(), numbers(math.MinInt), nil, nil, api.ErrRange}, {exampleTable(), numbers(3, math.MaxInt), make([]api.CoolFault, 5), nil, api.ErrRange},
		{exampleTable(), exampleSets(), make([]api.CoolFault, 5), nil, api.ErrLarge}, {four, numbers(0), faults(opened(4), opened(0), opened(1), opened(2), opened(3)), nil, api.ErrLarge},
		{exampleTable(), exampleSets(), faults(opened(2)), nil, api.ErrMissing}, {exampleTable(), exampleSets(), faults(closed(-1)), nil, api.ErrMissing}, {exampleTable(), exampleSets(), faults(opened(0), closed(math.MinInt)), nil, api.ErrMissing}, {exampleTable(), exampleSets(), faults(opened(0), opened(math.MaxInt), closed(0)), nil, api.ErrMissing}, {four, numbers(0), faults(opened(4)), nil, api.ErrMissing},
		{exampleTable(), exampleSets(), faults(opened(0), opened(0)), nil, api.ErrDouble}, {exampleTable(), exampleSets(), faults(opened(0), closed(0)), nil, api.ErrDouble}, {exampleTable(), exampleSets(), faults(opened(1), closed(0), closed(1)), nil, api.ErrDouble}, {exampleTable(), exampleSets(), faults(opened(0), opened(0), opened(2)), nil, api.ErrDouble}, {exampleTable(), exampleSets(), make([]api.CoolFault, 4), nil, api.ErrDouble},
		{table(0, 0), nil, nil, nil, api.ErrShape}, {table(-1, 0), nil, nil, nil, api.ErrRange},
	} {
		if l, e := cool.WithFaults(x.t, x.sets, x.faults); !alike(l, x.want) || e != x.err {
			t.Error(i, l, e)
		}
	}
	for i, x := range tableCases() {
		if _, e := cool.WithFaults(x.t, nil, nil); x.want != api.OK && e != x.want || x.want == api.OK && e != api.ErrShape {
			t.Error(i, e)
		}
	}
}

func TestP8_6WithFaultsByHand(t *testing.T) {
	rnd := rand.New(rand.NewSource(86))
	for range 5000 {
		x := randomTable(rnd, api.MaxCoolBanks, api.MaxCoolDelay)
		sets, l := randomSets(rnd, x, randomFrom(rnd, 1, api.MaxCoolSegments)), randomFaults(rnd, x)
		rnd.Shuffle(len(l), func(i, j int) { l[i], l[j] = l[j], l[i] })
		if got, e := cool.WithFaults(x, sets, l); !alike(got, withFaultsByHand(sets, l)) || e != api.OK {
			t.Fatal(x, sets, l, got, e)
		}
	}
}

func TestP8_6FaultsInErrors(t *testing.T) {
	x, s := table(200, 10), strip(3, ends(9000, 9000), ends(1, 0))
	m := measured(numbers(0, 4, -1, 0), ranges(-1, 0, 1, 0))
	wantErrors(t, func() api.Errno {
		l, e := cool.FaultsIn(x, s, m)
		if e != api.OK && l != nil {
			t.Error(l, "beside", e)
		}
		return e
	},
		step{api.ErrShape, func() { x.Banks = exampleTable().Banks }},
		step{api.ErrOrder, func() { s.Targets = exampleStrip().Targets }},
		step{api.ErrShape, func() { m.Sets = m.Sets[:2] }},
		step{api.ErrShape, func() { m.Sets = m.Sets[:3] }},
		step{api.ErrShape, func() { m.Exits = append(m.Exits, ranges(12001, 12001, 0, 0)...) }},
		step{api.ErrShape, func() { m.Exits = m.Exits[:3] }},
		step{api.ErrRange, func() { m.Sets[1] = math.MaxInt }},
		step{api.ErrRange, func() { m.Sets[1] = 2 }},
		step{api.ErrRange, func() { m.Sets[2] = 2 }},
		step{api.ErrRange, func() { m.Exits[0] = ends(0, 12001) }},
		step{api.ErrRange, func() { m.Exits[0] = ends(math.MinInt, math.MaxInt) }},
		step{api.ErrRange, func() { m.Exits[0] = ends(8100, 8100) }},
		step{api.ErrOrder, func() { m.Exits[1] = ends(5727, 6518) }},
		step{api.ErrRange, func() { m.Exits[2] = ends(7000, 6999) }},
		step{api.ErrOrder, func() { m.Exits[2] = ends(7000, 7000) }},
		step{api.ErrNone, func() { m.Exits[2] = ends(6518, 12000) }},
	)
}

func TestP8_6FaultsIn(t *testing.T) {
	wide := ends(0, 12000)
	alikeBanks := table(0, 0, bank(500, 500, 0), bank(500, 500, 0), bank(500, 500, 8), bank(500, 500, 8))
	two := strip(2, ends(8000, 8000), wide)
	none := faults()
	for i, x := range []struct {
		t    api.CoolTable
		x    api.CoolStrip
		m    api.CoolMeasured
		want [][]api.CoolFault
		err  api.Errno
	}{
		{exampleTable(), exampleStrip(), exampleMeasured(), [][]api.CoolFault{exampleFaults()}, api.OK},
		{exampleTable(), exampleStrip(), measured(exampleSets(), ranges(8980, 8980, 6343, 7222, 7222, 12000)), [][]api.CoolFault{none}, api.OK}, {exampleTable(), exampleStrip(), measured(exampleSets(), ranges(0, 12000, 0, 12000, 0, 12000)), [][]api.CoolFault{none}, api.OK},
		{exampleTable(), exampleStrip(), measured(numbers(3, 3, 3), ranges(8980, 8980, 8980, 8980, 8980, 8980)), [][]api.CoolFault{{closed(0), closed(1)}}, api.OK}, {exampleTable(), exampleStrip(), measured(numbers(3, 3, 3), ranges(8980, 8980, 8100, 8100, 8980, 8980)), nil, api.ErrNone},
		{exampleTable(), exampleStrip(), measured(exampleSets(), ranges(1, 2, 0, 12000, 0, 12000)), nil, api.ErrNone},
		// A bank that is not available is broken.
		{alikeBanks, two, measured(numbers(0, 0), ranges(4000, 4000, 4000, 4000)), [][]api.CoolFault{{opened(0)}, {opened(1)}, {opened(2)}, {opened(3)}}, api.OK},
		{alikeBanks, two, measured(numbers(1, 1), ranges(2000, 2000, 2000, 2000)), [][]api.CoolFault{{opened(1)}, {opened(2)}, {opened(3)}}, api.OK}, {alikeBanks, two, measured(numbers(3, 3), ranges(4000, 4000, 4000, 4000)), [][]api.CoolFault{{closed(0)}, {closed(1)}}, api.OK}, {alikeBanks, two, measured(numbers(1, 2), ranges(4000, 4000, 2000, 2000)), [][]api.CoolFault{{opened(0)}}, api.OK},
		{alikeBanks, two, measured(numbers(1, 0), ranges(4000, 4000, 4000, 4000)), [][]api.CoolFault{{opened(0)}}, api.OK}, {alikeBanks, two, measured(numbers(3, 2), ranges(4000, 4000, 4000, 4000)), [][]api.CoolFault{{closed(0)}}, api.OK},
		{alikeBanks, two, measured(numbers(1, 0), ranges(2000, 4000, 4000, 4000)), [][]api.CoolFault{{opened(0)}, {opened(1)}, {opened(2)}, {opened(3)}}, api.OK},
		{alikeBanks, two, measured(numbers(3, 0), ranges(4000, 4000, 4000, 4000)), [][]api.CoolFault{{closed(0), opened(1)}, {opened(0), closed(1)}}, api.OK}, {alikeBanks, two, measured(numbers(3, 0), ranges(8000, 8000, 8000, 8000)), [][]api.CoolFault{{closed(0), closed(1)}}, api.OK},
		{alikeBanks, two, measured(numbers(3, 0), ranges(2000, 2000, 2000, 2000)), [][]api.CoolFault{{opened(0), opened(1)}}, api.OK},
		{alikeBanks, two, measured(numbers(15, 0), ranges(500, 500, 500, 500)), [][]api.CoolFault{{opened(0), opened(1), opened(2), opened(3)}}, api.OK},
		{alikeBanks, two, measured(numbers(5, 4), ranges(8000, 8000, 4000, 4000)), nil, api.ErrNone},
		{alikeBanks, two, measured(numbers(4, 0), ranges(2000, 2000, 2000, 2000)), [][]api.CoolFault{{opened(0), opened(2)}, {opened(1), opened(2)}, {opened(2), opened(3)}}, api.OK},
	} {
		if l, e := cool.FaultsIn(x.t, x.x, x.m); !alike(l, x.want) || e != x.err {
			t.Error(i, l, e)
		}
	}
}

// TestP8_6Touching has a bank without which the exit temperature is 9000, and what was
// measured at the ends of the exit range with it.
func TestP8_6Touching(t *testing.T) {
	x, s := table(200, 10, bank(200, 300, 0)), strip(1, ends(9010, 9010), ends(0, 0))
	exit := exitByHand(x, 1, s.Entries[0])
	for exits, want := range map[api.Range][][]api.CoolFault{
		ends(0, exit.Lo): {nil}, ends(exit.Lo, exit.Lo): {nil}, ends(exit.Lo+1, exit.Hi-1): {nil}, ends(exit.Hi, exit.Hi): {nil}, ends(exit.Hi, 8999): {nil}, ends(0, 12000): {nil},
		ends(exit.Hi+1, 9000): {faults(closed(0))}, ends(9000, 12000): {faults(closed(0))},
		ends(0, exit.Lo-1): nil, ends(exit.Hi+1, 8999): nil, ends(9001, 12000): nil,
	} {
		if l, e := cool.FaultsIn(x, s, measured(numbers(1), []api.Range{exits})); !alike(l, want) || (e == api.ErrNone) != (want == nil) {
			t.Error(exits, l, e)
		}
	}
}

func TestP8_6FaultsByHand(t *testing.T) {
	rnd := rand.New(rand.NewSource(860))
	seen, sizes := map[api.Errno]int{}, map[int]int{}
	several := 0
	for range 5000 {
		x := randomTable(rnd, api.MaxCoolBanks, api.MaxCoolDelay)
		isSharp := rnd.Intn(3) == 0
		if isSharp {
			x = sharpTable(rnd)
		}
		s := randomStrip(rnd, x, 4)
		m := randomMeasured(rnd, x, s)
		for i := range m.Exits {
			if !isSharp && rnd.Intn(4) == 0 {
				m.Exits[i] = randomEnds(rnd, 0, api.MaxCoolDegrees)
			}
		}
		want, wanted := faultsByHand(x, s, m), api.OK
		if want == nil {
			wanted = api.ErrNone
		}
		l, e := cool.FaultsIn(x, s, m)
		if !alike(l, want) || e != wanted {
			t.Fatal(x, s, m, l, e, want)
		}
		seen[e]++
		if e == api.OK {
			sizes[len(l[0])]++
		}
		if len(l) > 1 {
			several++
		}
	}
	wantSeen(t, seen, 300, api.OK, api.ErrNone)
	wantSeen(t, sizes, 10, 0, 1, 2, 3, 4)
	if several < 100 {
		t.Error("too few are explained by several sets", several)
	}
}

func TestP8_13Explained(t *testing.T) {
	rnd := rand.New(rand.NewSource(813))
	fewer := 0
	for range 5000 {
		x := randomTable(rnd, api.MaxCoolBanks, api.MaxCoolDelay)
		s := randomStrip(rnd, x, api.MaxCoolSegments)
		commanded, broken := randomAvailableSets(rnd, x, len(s.Entries)), randomFaults(rnd, x)
		open, e := cool.WithFaults(x, commanded, broken)
		if e != api.OK {
			t.Fatal(x, commanded, broken, e)
		}
		m := measured(commanded, nil)
		for i, set := range open {
			exit, e := cool.PassedBy(x, set, s.Entries[i])
			if e != api.OK {
				t.Fatal(x, set, s.Entries[i], e)
			}
			m.Exits = append(m.Exits, exit)
		}
		l, e := cool.FaultsIn(x, s, m)
		if e != api.OK || len(l) == 0 || len(l[0]) > len(broken) {
			t.Fatal(x, s, m, broken, l, e)
		}
		if len(l[0]) < len(broken) {
			fewer++
		}
	}
	if fewer < 100 {
		t.Error("too few faults are explained by fewer ones", fewer)
	}
}
