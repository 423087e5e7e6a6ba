package cool_test

import (
	"math"
	"math/rand"
	"slices"
	"testing"

	"cobble/api"
	"cobble/cool"
)

// stripCase is a strip, the index of a segment, and the error.
type stripCase struct {
	x    api.CoolStrip
	at   int
	want api.Errno
}

func stripCases() []stripCase {
	good, wide := ends(0, 0), ends(0, 12000)
	wrong := func(i int, entry, target api.Range) api.CoolStrip {
		x := strip(12, wide, good)
		x.Entries[i], x.Targets[i] = entry, target
		return x
	}
	return []stripCase{
		{exampleStrip(), 0, api.OK}, {strip(1, good, wide), 0, api.OK}, {strip(12, wide, good), 0, api.OK}, {strip(1, ends(12000, 12000), ends(12000, 12000)), 0, api.OK},
		{api.CoolStrip{}, 0, api.ErrShape}, {api.CoolStrip{Targets: ranges(0, 0)}, 0, api.ErrShape}, {api.CoolStrip{Entries: ranges(0, 0)}, 0, api.ErrShape}, {api.CoolStrip{Entries: ranges(1, 0, -1, 0), Targets: ranges(0, 0)}, 0, api.ErrShape}, {api.CoolStrip{Entries: make([]api.Range, 13)}, 0, api.ErrShape}, {api.CoolStrip{Entries: make([]api.Range, 13), Targets: make([]api.Range, 12)}, 0, api.ErrShape}, {api.CoolStrip{Entries: make([]api.Range, 12), Targets: make([]api.Range, 13)}, 0, api.ErrShape},
		{strip(13, good, good), 0, api.ErrLarge}, {strip(13, ends(-1, 0), good), 0, api.ErrLarge},
		{wrong(0, ends(-1, 0), good), 0, api.ErrRange}, {wrong(11, ends(0, 12001), good), 11, api.ErrRange}, {wrong(5, ends(math.MinInt, 0), good), 5, api.ErrRange}, {wrong(5, ends(0, math.MaxInt), good), 5, api.ErrRange}, {wrong(2, ends(12001, 0), good), 2, api.ErrRange}, {wrong(2, ends(0, -1), ends(1, 0)), 2, api.ErrRange},
		{wrong(3, ends(1, 0), good), 3, api.ErrOrder}, {wrong(3, ends(1, 0), ends(-1, 0)), 3, api.ErrOrder},
		{wrong(4, good, ends(-1, 0)), 4, api.ErrRange}, {wrong(4, good, ends(0, 12001)), 4, api.ErrRange}, {wrong(11, good, ends(12001, 12000)), 11, api.ErrRange}, {wrong(4, good, ends(math.MaxInt, math.MinInt)), 4, api.ErrRange}, {wrong(0, good, ends(1, 0)), 0, api.ErrOrder}, {wrong(11, good, ends(12000, 11999)), 11, api.ErrOrder},
		{api.CoolStrip{Entries: ranges(0, 0, -1, 0), Targets: ranges(1, 0, 0, 0)}, 0, api.ErrOrder}, {api.CoolStrip{Entries: ranges(1, 0, 0, 0), Targets: ranges(0, 0, 0, -1)}, 0, api.ErrOrder}, {api.CoolStrip{Entries: ranges(0, 0, 1, 0), Targets: ranges(0, 0, 0, -1)}, 1, api.ErrOrder},
	}
}

// stripErrors are the errors of the calls with a table and a strip; their other arguments
// are those of the examples.
func stripErrors(t api.CoolTable, x api.CoolStrip) map[string]api.Errno {
	l := map[string]api.Errno{}
	_, l["ExitsOf"] = cool.ExitsOf(t, x, exampleSets())
	_, l["AnswersOf"] = cool.AnswersOf(t, x, exampleSets())
	_, l["ReachingAt"] = cool.ReachingAt(t, x, 0)
	_, l["UnreachedIn"] = cool.UnreachedIn(t, x)
	_, _, l["Cheapest"] = cool.Cheapest(t, x, examplePrices())
	_, l["BoundOf"] = cool.BoundOf(t, x, exampleBound())
	_, l["FaultsIn"] = cool.FaultsIn(t, x, exampleMeasured())
	return l
}

func TestP8_1CheckStrip(t *testing.T) {
	for i, x := range stripCases() {
		if at, e := cool.CheckStrip(x.x); at != x.at || e != x.want {
			t.Error(i, at, e)
		}
		for name, e := range stripErrors(exampleTable(), x.x) {
			if x.want != api.OK && e != x.want {
				t.Error(name, i, e)
			}
		}
	}
}

// TestP8_4TableFirst covers P8.5 and P8.6, too: the error of the table comes first.
func TestP8_4TableFirst(t *testing.T) {
	for i, x := range tableCases() {
		for name, e := range stripErrors(x.t, api.CoolStrip{}) {
			if x.want != api.OK && e != x.want || x.want == api.OK && e != api.ErrShape {
				t.Error(name, i, e)
			}
		}
	}
}

// TestP8_4Sets has sets for a strip of as many segments, and for one with another number
// of them.
func TestP8_4Sets(t *testing.T) {
	wide := ends(0, 12000)
	for i, x := range setsCases() {
		if x.want != api.ErrShape && x.want != api.ErrLarge {
			s := strip(len(x.sets), wide, wide)
			if l, e := cool.ExitsOf(exampleTable(), s, x.sets); e != x.want || e != api.OK && l != nil {
				t.Error(i, l, e)
			}
			if l, e := cool.AnswersOf(exampleTable(), s, x.sets); e != x.want || e != api.OK && l != nil {
				t.Error(i, l, e)
			}
		}
		s := strip(len(x.sets)%12+1, wide, wide)
		if l, e := cool.ExitsOf(exampleTable(), s, x.sets); len(x.sets) != len(s.Entries) && (e != api.ErrShape || l != nil) {
			t.Error(i, l, e)
		}
		if l, e := cool.AnswersOf(exampleTable(), s, x.sets); len(x.sets) != len(s.Entries) && (e != api.ErrShape || l != nil) {
			t.Error(i, l, e)
		}
	}
}

func TestP8_4Exits(t *testing.T) {
	if l, e := cool.ExitsOf(exampleTable(), exampleStrip(), numbers(1, 2, 3)); !alike(l, ranges(8100, 8100, 6343, 7222, 5727, 6518)) || e != api.OK {
		t.Error(l, e)
	}
	x := api.CoolStrip{Entries: ranges(0, 12000, 300, 300, 9000, 9000), Targets: make([]api.Range, 3)}
	if l, e := cool.ExitsOf(exampleTable(), x, numbers(0, 0, 2)); !alike(l, ranges(0, 11980, 280, 280, 6343, 7222)) || e != api.OK {
		t.Error(l, e)
	}
}

// TestP8_4Answers has exit ranges from 6343 to 7222, and targets at their ends.
func TestP8_4Answers(t *testing.T) {
	for target, want := range map[api.Range]int{
		ends(6343, 7222): api.AnswerYes, ends(0, 12000): api.AnswerYes, ends(6343, 7223): api.AnswerYes, ends(6342, 7222): api.AnswerYes,
		ends(6344, 7222): api.AnswerMaybe, ends(6343, 7221): api.AnswerMaybe, ends(6344, 7221): api.AnswerMaybe, ends(7000, 7000): api.AnswerMaybe, ends(7222, 7222): api.AnswerMaybe, ends(7222, 12000): api.AnswerMaybe, ends(0, 6343): api.AnswerMaybe, ends(6343, 6343): api.AnswerMaybe, ends(0, 7221): api.AnswerMaybe,
		ends(7223, 12000): api.AnswerNo, ends(0, 6342): api.AnswerNo, ends(0, 0): api.AnswerNo, ends(12000, 12000): api.AnswerNo, ends(6342, 6342): api.AnswerNo, ends(7223, 7223): api.AnswerNo,
	} {
		x := strip(2, ends(9000, 9000), target)
		x.Targets[0] = ends(8980, 8980)
		if l, e := cool.AnswersOf(exampleTable(), x, numbers(0, 2)); !alike(l, numbers(api.AnswerYes, want)) || e != api.OK {
			t.Error(target, l, e)
		}
		if l, e := cool.ReachingAt(exampleTable(), x, 1); slices.Contains(l, 2) != (want == api.AnswerYes) || e != api.OK {
			t.Error(target, l, e)
		}
	}
}

func TestP8_4ReachingAt(t *testing.T) {
	wide := ends(0, 12000)
	for i, x := range []struct {
		x       api.CoolStrip
		segment int
		want    []int
		err     api.Errno
	}{
		{exampleStrip(), 0, nil, api.OK}, {exampleStrip(), 1, numbers(2), api.OK}, {exampleStrip(), 2, numbers(2), api.OK},
		{strip(2, ends(9000, 9000), wide), 0, numbers(0, 1), api.OK}, {strip(2, ends(9000, 9000), wide), 1, numbers(0, 1, 2, 3), api.OK}, {strip(1, ends(9000, 9000), ends(8980, 8980)), 0, numbers(0), api.OK}, {strip(2, ends(9000, 9000), ends(0, 8100)), 1, numbers(1, 2, 3), api.OK},
		{exampleStrip(), -1, nil, api.ErrMissing}, {exampleStrip(), 3, nil, api.ErrMissing}, {strip(1, wide, wide), 1, nil, api.ErrMissing}, {strip(12, wide, wide), 12, nil, api.ErrMissing}, {exampleStrip(), math.MinInt, nil, api.ErrMissing}, {exampleStrip(), math.MaxInt, nil, api.ErrMissing},
		{api.CoolStrip{}, -1, nil, api.ErrShape}, {strip(1, wide, ends(1, 0)), 1, nil, api.ErrOrder},
	} {
		if l, e := cool.ReachingAt(exampleTable(), x.x, x.segment); !alike(l, x.want) || e != x.err {
			t.Error(i, l, e)
		}
	}
}

func TestP8_4UnreachedIn(t *testing.T) {
	wide := ends(0, 12000)
	for i, x := range []struct {
		t    api.CoolTable
		x    api.CoolStrip
		want []int
	}{
		{exampleTable(), exampleStrip(), numbers(0)}, {exampleTable(), strip(12, ends(9000, 9000), wide), nil}, {exampleTable(), strip(3, ends(9000, 9000), ends(0, 0)), numbers(0, 1, 2)}, {exampleTable(), strip(3, ends(9000, 9000), ends(8100, 8100)), nil}, {exampleTable(), strip(3, wide, ends(1, 12000)), numbers(0, 1, 2)},
		{table(0, 0, bank(500, 500, 8)), strip(12, ends(9000, 9000), ends(4500, 4500)), numbers(0, 1, 2, 3, 4, 5, 6, 7)}, {table(0, 0, bank(500, 500, 8), bank(500, 500, 3)), strip(12, ends(8000, 8000), ends(2000, 4000)), numbers(0, 1)},
	} {
		if l, e := cool.UnreachedIn(x.t, x.x); !alike(l, x.want) || e != api.OK {
			t.Error(i, l, e)
		}
	}
}

func TestP8_4StripsByHand(t *testing.T) {
	rnd := rand.New(rand.NewSource(84))
	seen := map[int]int{}
	for range 3000 {
		x := randomTable(rnd, api.MaxCoolBanks, api.MaxCoolDelay)
		s := randomStrip(rnd, x, api.MaxCoolSegments)
		sets := randomAvailableSets(rnd, x, len(s.Entries))
		var exits []api.Range
		var answers []int
		for i, set := range sets {
			exits = append(exits, exitByHand(x, set, s.Entries[i]))
			answers = append(answers, answerByHand(exits[i], s.Targets[i]))
			seen[answers[i]]++
		}
		if l, e := cool.ExitsOf(x, s, sets); !alike(l, exits) || e != api.OK {
			t.Fatal(x, s, sets, l, e)
		}
		if l, e := cool.AnswersOf(x, s, sets); !alike(l, answers) || e != api.OK {
			t.Fatal(x, s, sets, l, e)
		}
	}
	wantSeen(t, seen, 1000, api.AnswerNo, api.AnswerMaybe, api.AnswerYes)
}

func TestP8_10Reached(t *testing.T) {
	rnd := rand.New(rand.NewSource(810))
	seen := map[bool]int{}
	for range 3000 {
		x := randomTable(rnd, api.MaxCoolBanks, api.MaxCoolDelay)
		s := randomStrip(rnd, x, api.MaxCoolSegments)
		unreached, e := cool.UnreachedIn(x, s)
		sets, _, f := cool.Cheapest(x, s, randomPrices(rnd))
		answers, g := cool.AnswersOf(x, s, sets)
		if e != api.OK || f != api.OK || g != api.OK || !slices.IsSorted(unreached) {
			t.Fatal(x, s, unreached, sets, e, f, g)
		}
		for i := range s.Entries {
			l, e := cool.ReachingAt(x, s, i)
			if !alike(l, reachingByHand(x, s, i)) || e != api.OK {
				t.Fatal(x, s, i, l, e)
			}
			isUnreached := slices.Contains(unreached, i)
			if isUnreached != (len(l) == 0) || !isUnreached && (answers[i] != api.AnswerYes || !slices.Contains(l, sets[i])) {
				t.Fatal(x, s, i, unreached, l, answers)
			}
			seen[isUnreached]++
		}
	}
	wantSeen(t, seen, 1000, false, true)
}
