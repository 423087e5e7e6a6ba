package mill_test

import (
	"fmt"
	"math/rand"
	"slices"
	"testing"

	"cobble/api"
	"cobble/mill"
	"cobble/pass"
)

// wantLine wants a line after a log.
func wantLine(t *testing.T, p api.MillPlant, l []api.MillEntry, want api.MillLine) {
	t.Helper()
	s, e := mill.StateOf(p, l)
	wantSame(t, "the line", s.Line, e, want, api.OK)
}

func TestP10_3Beginning(t *testing.T) {
	for n, p := range map[int]api.MillPlant{2: examplePlant(), 3: longPlant()} {
		s, e := mill.StateOf(p, nil)
		want := api.MillState{Line: api.MillLine{Running: make([]bool, n), Raised: make([]bool, n-1), Rounds: slices.Repeat([]int{2000}, n)}}
		wantSame(t, "StateOf", s, e, want, api.OK)
		if len(s.Line.Running) != n || len(s.Line.Raised) != n-1 {
			t.Error(s.Line)
		}
	}
}

func TestP10_3States(t *testing.T) {
	p := examplePlant()
	s, e := mill.StateOf(p, richLog(t))
	order := api.CampaignOrder{Name: "o1", Grade: 1, Thickness: 3000, Width: 1200, Coiling: api.Range{Hi: 20000}}
	second, third := order, order
	second.Name, second.Due = "o2", 5
	third.Name, third.Grade = "o3", 2
	slab := api.CampaignSlab{Name: "s1", Grade: 1, Thickness: 200000, Width: 1250, Length: 1000}
	wantSame(t, "StateOf", s, e, api.MillState{
		Line: api.MillLine{Strip: "s3", Head: 2, Running: []bool{true, true}, Raised: []bool{true}, Rounds: []int{2000, 1800}},
		Orders: []api.MillOrder{
			{Order: order, Planned: true, Schedule: api.PassSchedule{Name: "a", Thicknesses: []int{80, 60}}},
			{Order: second, Planned: true, Schedule: api.PassSchedule{Name: "b", Thicknesses: []int{80, 60}}},
			{Order: third},
		},
		Slabs: []api.MillSlab{
			{Slab: slab, Order: "o1", Place: api.MillCoiled},
			{Slab: api.CampaignSlab{Name: "s2", Grade: 1, Thickness: 200000, Width: 1250, Length: 900}, Order: "o2", Place: api.MillCoiled},
			{Slab: api.CampaignSlab{Name: "s3", Grade: 1, Thickness: 200000, Width: 1200, Length: 800}, Order: "o1", Place: api.MillInLine},
			{Slab: api.CampaignSlab{Name: "s4", Grade: 2, Thickness: 200000, Width: 1200, Length: 800}, Place: api.MillYard},
		},
		Coils: []api.MillCoil{
			{Name: "c1", Slab: "s1", Learned: true,
				Course:   api.TraceCourse{Slab: "s1", Lengths: []int{500, 500}, Areas: []int{30, 30}, Steps: []api.TraceStep{{Kind: api.TracePass, Areas: []int{10, 10}}}},
				Readings: []api.TraceReading{{Step: 1, At: 300, Present: true}, {Step: 0, At: 700}}},
			{Name: "c2", Slab: "s2", Shipped: true,
				Course:   api.TraceCourse{Slab: "s2", Lengths: []int{900}, Areas: []int{60}, Steps: []api.TraceStep{{Kind: api.TracePass, Areas: []int{20}}, {Kind: api.TraceCut, From: 100, To: 2000}, {Kind: api.TracePass, Areas: []int{15}}}},
				Readings: []api.TraceReading{{Step: 1, At: 50}}},
		},
		Correction: api.ModelCorrection{Version: 2, At: 0},
	}, api.OK)
	s, e = mill.StateOf(p, []api.MillEntry{entry(0, "tom", "stop f1")})
	wantSame(t, "StateOf a wrong log", s, e, api.MillState{}, api.ErrState)
	p.Stands = nil
	s, e = mill.StateOf(p, nil)
	wantSame(t, "StateOf a wrong plant", s, e, api.MillState{}, api.ErrShape)
}

func TestP10_2Draws(t *testing.T) {
	p := examplePlant()
	l := logOf(t, p, nil, "ola "+orderText, "ola "+slabText, "ola assign s1 o1")
	wantRefused(t, p, l, api.ErrMissing, "tom draw s2", "tom draw o1")
	wantRefused(t, p, l, api.ErrState, "tom draw s1")
	l = logOf(t, p, l, "tom charge s1")
	wantRefused(t, p, l, api.ErrGap, "tom draw s1")
	l = logOf(t, p, l, "ola "+scheduleText)
	wantRefused(t, p, l, api.ErrRefused, "tom draw s1")
	l = logOf(t, p, l, "tom start f1")
	wantRefused(t, p, l, api.ErrRefused, "tom draw s1")
	wantRefused(t, p, logOf(t, p, l, "tom start f2", "tom stop f1"), api.ErrRefused, "tom draw s1")
	l = logOf(t, p, l, "tom start f2", "ola slab s2 1 200000 1250 1000", "ola assign s2 o1", "tom charge s2", "ola order o2 grade 1 thickness 3 mm width 1200 mm", "ola slab s3 1 200000 1250 1000", "ola assign s3 o2", "tom charge s3", "tom draw s1")
	s := stateOf(t, p, l)
	wantSame(t, "Line", s.Line, api.OK, api.MillLine{Strip: "s1", Running: []bool{true, true}, Raised: []bool{false}, Rounds: []int{2000, 2000}}, api.OK)
	wantSame(t, "Place", s.Slabs[0].Place, api.OK, api.MillInLine, api.OK)
	wantRefused(t, p, l, api.ErrState, "tom draw s1")
	wantRefused(t, p, l, api.ErrBusy, "tom draw s2")
	wantRefused(t, p, l, api.ErrGap, "tom draw s3")
	wantRefused(t, p, logOf(t, p, l, "tom stop f2"), api.ErrBusy, "tom draw s2")
	wantRefused(t, p, logOf(t, p, l, "tom thread", "tom thread", "tom leave", "tom leave"), api.ErrBusy, "tom draw s2")
	wantRefused(t, p, logOf(t, p, l, "tom thread", "tom cobble f1"), api.ErrBusy, "tom draw s2")
	l = logOf(t, p, l, "tom thread", "tom cobble f1", "tom stop f1", "tom clear")
	wantRefused(t, p, l, api.ErrRefused, "tom draw s2")
	wantRefused(t, p, l, api.ErrState, "tom draw s1")
	logOf(t, p, l, "tom start f1", "tom draw s2")
}

func TestP10_2StartsAndStops(t *testing.T) {
	p := longPlant()
	wantRefused(t, p, nil, api.ErrMissing, "tom start f1", "tom stop f1", "tom start 1", "tom stop R3")
	wantRefused(t, p, nil, api.ErrState, "tom stop r3")
	l := logOf(t, p, nil, "tom start a1")
	wantLine(t, p, l, api.MillLine{Running: []bool{false, true, false}, Raised: make([]bool, 2), Rounds: []int{2000, 2000, 2000}})
	wantRefused(t, p, l, api.ErrState, "tom start a1", "tom stop f2")
	l = logOf(t, p, l, "tom stop a1")
	wantLine(t, p, l, api.MillLine{Running: make([]bool, 3), Raised: make([]bool, 2), Rounds: []int{2000, 2000, 2000}})
	l = threadedLog(t, p, 1)
	wantRefused(t, p, l, api.ErrRefused, "tom stop r3")
	wantRefused(t, p, logOf(t, p, l, "tom stop a1"), api.ErrRefused, "tom thread", "tom stop r3")
	l = logOf(t, p, l, "tom stop f2", "tom start f2", "tom stop a1", "tom start a1", "tom thread", "tom leave")
	l = logOf(t, p, l, "tom stop r3", "tom stop f2", "tom cobble a1")
	wantRefused(t, p, l, api.ErrRefused, "tom start r3", "tom start f2")
	wantRefused(t, p, l, api.ErrState, "tom start a1", "tom stop r3")
	l = logOf(t, p, l, "tom stop a1")
	wantRefused(t, p, l, api.ErrRefused, "tom start a1")
}

// TestP10_2StopsAfterCobbles stops stands that are not loaded after a cobble, before and
// behind the strip.
func TestP10_2StopsAfterCobbles(t *testing.T) {
	p := longPlant()
	l := logOf(t, p, threadedLog(t, p, 2), "tom leave", "tom cobble a1")
	for _, stands := range [][]string{{"r3", "a1", "f2"}, {"f2", "a1", "r3"}, {"a1", "r3", "f2"}} {
		l := l
		for _, stand := range stands {
			l = logOf(t, p, l, "tom stop "+stand)
		}
		logOf(t, p, l, "tom clear")
	}
	l = logOf(t, p, threadedLog(t, p, 3), "tom cobble f2")
	wantRefused(t, p, l, api.ErrRefused, "tom stop a1", "tom stop f2")
	l = logOf(t, p, l, "tom stop r3")
	wantRefused(t, p, l, api.ErrRefused, "tom stop f2", "tom clear", "tom start r3")
	l = logOf(t, p, l, "tom stop a1")
	wantRefused(t, p, l, api.ErrRefused, "tom clear", "tom start a1")
	l = logOf(t, p, l, "tom stop f2", "tom clear")
	s := stateOf(t, p, l)
	wantSame(t, "the line", s.Line, api.OK, api.MillLine{Running: make([]bool, 3), Raised: make([]bool, 2), Rounds: []int{2000, 2000, 2000}}, api.OK)
	wantSame(t, "Place", s.Slabs[0].Place, api.OK, api.MillScrapped, api.OK)
}

func TestP10_2Threads(t *testing.T) {
	p := longPlant()
	wantRefused(t, p, nil, api.ErrState, "tom thread", "tom leave", "tom clear")
	l := threadedLog(t, p, 0)
	wantRefused(t, p, l, api.ErrState, "tom leave", "tom clear")
	wantRefused(t, p, logOf(t, p, l, "tom stop r3"), api.ErrRefused, "tom thread")
	l = logOf(t, p, l, "tom stop a1", "tom thread")
	line := api.MillLine{Strip: "s1", Head: 1, Running: []bool{true, false, true}, Raised: make([]bool, 2), Rounds: []int{2000, 2000, 2000}}
	wantLine(t, p, l, line)
	wantRefused(t, p, l, api.ErrRefused, "tom thread")
	wantRefused(t, p, logOf(t, p, l, "tom cobble r3"), api.ErrRefused, "tom thread", "tom leave")
	l = logOf(t, p, l, "tom leave")
	line.Tail = 1
	wantLine(t, p, l, line)
	wantRefused(t, p, l, api.ErrState, "tom leave")
	wantRefused(t, p, l, api.ErrRefused, "tom thread", "tom cobble r3", "tom cobble a1")
	l = logOf(t, p, l, "tom stop r3", "tom start a1", "tom thread", "tom thread")
	line.Head, line.Running = 3, []bool{false, true, true}
	wantLine(t, p, l, line)
	wantRefused(t, p, l, api.ErrState, "tom thread")
	wantRefused(t, p, logOf(t, p, l, "tom cobble f2"), api.ErrState, "tom thread", "tom cobble f2", "tom cobble r3")
	l = logOf(t, p, l, "tom leave", "tom leave")
	line.Tail = 3
	wantLine(t, p, l, line)
	wantRefused(t, p, l, api.ErrState, "tom thread", "tom leave", "tom clear")
	wantRefused(t, p, l, api.ErrRefused, "tom cobble r3", "tom cobble f2")
}

func TestP10_2Loopers(t *testing.T) {
	p := longPlant()
	wantRefused(t, p, nil, api.ErrMissing, "tom raise f2", "tom lower f2", "tom raise f1", "tom lower 1")
	wantRefused(t, p, nil, api.ErrState, "tom lower r3", "tom lower a1")
	wantRefused(t, p, nil, api.ErrRefused, "tom raise r3", "tom raise a1")
	l := threadedLog(t, p, 1)
	wantRefused(t, p, l, api.ErrRefused, "tom raise r3", "tom raise a1")
	l = logOf(t, p, l, "tom thread", "tom raise r3")
	wantRefused(t, p, l, api.ErrState, "tom raise r3", "tom lower a1")
	wantRefused(t, p, l, api.ErrRefused, "tom raise a1", "tom leave")
	line := api.MillLine{Strip: "s1", Head: 2, Running: []bool{true, true, true}, Raised: []bool{true, false}, Rounds: []int{2000, 2000, 2000}}
	wantLine(t, p, l, line)
	l = logOf(t, p, l, "tom thread", "tom raise a1", "tom lower r3", "tom leave")
	line.Head, line.Tail, line.Raised = 3, 1, []bool{false, true}
	wantLine(t, p, l, line)
	wantRefused(t, p, l, api.ErrRefused, "tom raise r3", "tom leave")
	l = logOf(t, p, l, "tom lower a1", "tom leave")
	wantRefused(t, p, l, api.ErrRefused, "tom raise a1", "tom raise r3")
	l = logOf(t, p, threadedLog(t, p, 3), "tom raise r3", "tom raise a1", "tom cobble a1")
	line.Tail, line.Raised, line.Cobbled, line.Cobble = 0, make([]bool, 2), true, 1
	wantLine(t, p, l, line)
	wantRefused(t, p, l, api.ErrRefused, "tom raise r3", "tom raise a1")
	wantRefused(t, p, l, api.ErrState, "tom lower r3")
}

func TestP10_2Cobbles(t *testing.T) {
	p := longPlant()
	wantRefused(t, p, nil, api.ErrMissing, "tom cobble f1", "tom cobble 1")
	wantRefused(t, p, nil, api.ErrRefused, "tom cobble r3", "tom cobble f2")
	l := logOf(t, p, threadedLog(t, p, 2), "tom leave")
	wantRefused(t, p, l, api.ErrRefused, "tom cobble r3", "tom cobble f2")
	l = logOf(t, p, l, "tom cobble a1")
	wantLine(t, p, l, api.MillLine{Strip: "s1", Head: 2, Tail: 1, Running: []bool{true, true, true}, Raised: make([]bool, 2), Rounds: []int{2000, 2000, 2000}, Cobbled: true, Cobble: 1})
	wantRefused(t, p, l, api.ErrState, "tom cobble a1", "tom cobble r3")
	wantRefused(t, p, l, api.ErrMissing, "tom cobble f1")
	l = logOf(t, p, l, "tom stop a1", "tom clear")
	wantLine(t, p, l, api.MillLine{Running: []bool{true, false, true}, Raised: make([]bool, 2), Rounds: []int{2000, 2000, 2000}})
	wantRefused(t, p, l, api.ErrState, "tom clear")
	l = logOf(t, p, threadedLog(t, p, 3), "tom cobble r3")
	s := stateOf(t, p, l)
	wantSame(t, "Cobble", s.Line.Cobble, api.OK, 0, api.OK)
	wantSame(t, "Cobbled", s.Line.Cobbled, api.OK, true, api.OK)
}

func TestP10_2Rolls(t *testing.T) {
	p := longPlant()
	wantRefused(t, p, nil, api.ErrMissing, "tom rolls f1 0", "tom rolls 1 5")
	wantRefused(t, p, nil, api.ErrRange, "tom rolls r3 0", "tom rolls r3 1000001")
	l := logOf(t, p, nil, "tom rolls a1 1", "tom rolls f2 1000000", "tom rolls f2 7")
	wantLine(t, p, l, api.MillLine{Running: make([]bool, 3), Raised: make([]bool, 2), Rounds: []int{2000, 1, 7}})
	wantRefused(t, p, logOf(t, p, l, "tom start a1"), api.ErrState, "tom rolls a1 5", "tom rolls a1 0")
	l = logOf(t, p, threadedLog(t, p, 1), "tom stop f2", "tom rolls f2 900", "tom cobble r3")
	wantRefused(t, p, l, api.ErrState, "tom rolls r3 5")
	l = logOf(t, p, l, "tom stop r3", "tom rolls f2 901")
	wantRefused(t, p, l, api.ErrRefused, "tom rolls r3 5", "tom rolls r3 0")
	logOf(t, p, l, "tom clear", "tom rolls r3 5")
}

func TestP10_3StopsAfter(t *testing.T) {
	p := longPlant()
	l := threadedLog(t, p, 3)
	want := []string{"r3", "a1", "f2"}
	for _, stand := range want {
		names, e := mill.StopsAfter(p, l, stand)
		wantSame(t, "StopsAfter "+stand, names, e, want, api.OK)
	}
	l = logOf(t, p, l, "tom leave")
	names, e := mill.StopsAfter(p, l, "f2")
	wantSame(t, "StopsAfter", names, e, []string{"a1", "f2"}, api.OK)
	l = logOf(t, p, l, "tom cobble f2", "tom stop a1")
	for stand, want := range map[string]api.Errno{"r3": api.ErrRefused, "f1": api.ErrMissing, "": api.ErrName, "R3": api.ErrMissing, "3": api.ErrName} {
		names, e := mill.StopsAfter(p, l, stand)
		wantSame(t, "StopsAfter "+stand, names, e, nil, want)
	}
	names, e = mill.StopsAfter(p, l, "a1")
	wantSame(t, "StopsAfter", names, e, []string{"f2"}, api.OK)
	l = logOf(t, p, l, "tom stop f2")
	names, e = mill.StopsAfter(p, l, "a1")
	wantSame(t, "StopsAfter all stops", names, e, nil, api.OK)
	names, e = mill.StopsAfter(p, logOf(t, p, l, "tom clear"), "a1")
	wantSame(t, "StopsAfter an empty line", names, e, nil, api.ErrRefused)
	names, e = mill.StopsAfter(p, []api.MillEntry{entry(0, "tom", "clear")}, "")
	wantSame(t, "StopsAfter a wrong log", names, e, nil, api.ErrState)
}

func TestP10_3StoppableIn(t *testing.T) {
	p := longPlant()
	for _, x := range []struct {
		l    []api.MillEntry
		want []string
	}{
		{nil, nil},
		{logOf(t, p, nil, "tom start f2", "tom start r3"), []string{"r3", "f2"}},
		{threadedLog(t, p, 0), []string{"r3", "a1", "f2"}},
		{threadedLog(t, p, 1), []string{"a1", "f2"}},
		{threadedLog(t, p, 3), nil},
		{logOf(t, p, threadedLog(t, p, 3), "tom leave"), []string{"r3"}},
		{logOf(t, p, threadedLog(t, p, 2), "tom cobble a1"), []string{"r3", "f2"}},
		{logOf(t, p, threadedLog(t, p, 3), "tom leave", "tom cobble f2"), []string{"r3", "a1"}},
		{logOf(t, p, threadedLog(t, p, 3), "tom cobble f2", "tom stop r3"), []string{"a1"}},
		{leftLog(t, p), []string{"r3", "a1", "f2"}},
	} {
		names, e := mill.StoppableIn(p, x.l)
		wantSame(t, "StoppableIn", names, e, x.want, api.OK)
		for _, stand := range p.Stands {
			_, e := mill.Appended(p, x.l, said(len(x.l), "tom stop "+stand))
			if (e == api.OK) != slices.Contains(names, stand) {
				t.Error(x, stand, e)
			}
		}
	}
	names, e := mill.StoppableIn(p, []api.MillEntry{entry(0, "tom", "clear")})
	wantSame(t, "StoppableIn a wrong log", names, e, nil, api.ErrState)
}

// TestP10_3ByHand compares what is asked of random logs with the tables.
func TestP10_3ByHand(t *testing.T) {
	rnd := rand.New(rand.NewSource(103))
	p := longPlant()
	seen := map[string]int{}
	for range 400 {
		h := randomHand(rnd, rnd.Intn(200), nil)
		for _, order := range []string{"o1", "o2", "o3", "1"} {
			var want []string
			for _, slab := range h.slabs {
				if h.assigned[slab] == order {
					want = append(want, slab)
				}
			}
			wrong := chain(unless(order != "1", api.ErrName), unless(has(h.orders, order), api.ErrMissing))
			names, e := mill.SlabsFor(p, h.log, order)
			wantSame(t, "SlabsFor", names, e, want, wrong)
			seen[fmt.Sprint(len(want))]++
		}
		var stoppable []string
		for _, stand := range p.Stands {
			if h.mayStop(stand) == api.OK {
				stoppable = append(stoppable, stand)
			}
			names, e := mill.StopsAfter(p, h.log, stand)
			if h.loaded(stand) {
				wantSame(t, "StopsAfter", names, e, h.stops(), api.OK)
				seen[fmt.Sprint("loaded, cobbled ", h.cobble != "")]++
			} else {
				wantSame(t, "StopsAfter", names, e, nil, api.ErrRefused)
			}
		}
		names, e := mill.StoppableIn(p, h.log)
		wantSame(t, "StoppableIn", names, e, stoppable, api.OK)
		corrections, e := mill.CorrectionsOf(p, h.log)
		wantSame(t, "CorrectionsOf", corrections, e, h.corrections, api.OK)
	}
	wantSeen(t, seen, 20, "0", "1", "2", "loaded, cobbled false", "loaded, cobbled true")
}

// permutations are all orders of names.
func permutations(l []string) [][]string {
	if len(l) == 0 {
		return [][]string{nil}
	}
	var all [][]string
	for i, x := range l {
		others := slices.Delete(slices.Clone(l), i, i+1)
		for _, rest := range permutations(others) {
			all = append(all, append([]string{x}, rest...))
		}
	}
	return all
}

// wantInterlocked wants what P10.8 says of a line.
func wantInterlocked(t *testing.T, l api.MillLine) {
	t.Helper()
	for i, runs := range l.Running {
		before := i > 0 && isLoaded(l, i-1)
		fed := isLoaded(l, i) && before && l.Running[i-1]
		if !l.Cobbled && isLoaded(l, i) && !runs || !runs && fed {
			t.Error("a stand stands still", i, l)
		}
		if i < len(l.Raised) && l.Raised[i] && (l.Cobbled || !isLoaded(l, i) || !isLoaded(l, i+1)) {
			t.Error("a looper is raised", i, l)
		}
	}
}

// TestP10_8Interlocked looks at every state of random logs.
func TestP10_8Interlocked(t *testing.T) {
	rnd := rand.New(rand.NewSource(108))
	p := longPlant()
	for range 60 {
		l := randomHand(rnd, 300, nil).log
		for n := range len(l) + 1 {
			wantInterlocked(t, stateOf(t, p, l[:n]).Line)
		}
	}
}

// TestP10_9StoppedInOrder makes cobbles, and tries all orders of the stops.
func TestP10_9StoppedInOrder(t *testing.T) {
	p := longPlant()
	for head := range 4 {
		for tail := range head {
			l := threadedLog(t, p, head)
			for range tail {
				l = logOf(t, p, l, "tom leave")
			}
			for _, stand := range p.Stands[tail:head] {
				stops, e := mill.StopsAfter(p, l, stand)
				if e != api.OK || len(stops) != head-tail {
					t.Fatal(stops, e)
				}
				cobbled := logOf(t, p, l, "tom cobble "+stand)
				wantOnlyInOrder(t, p, cobbled, stops)
			}
		}
	}
}

// wantOnlyInOrder wants that stops are accepted in their order alone, and that the strip
// can be cleared after them, and not before.
func wantOnlyInOrder(t *testing.T, p api.MillPlant, l []api.MillEntry, stops []string) {
	t.Helper()
	for _, order := range permutations(stops) {
		next, e := l, api.OK
		for _, stand := range order {
			wantRefused(t, p, next, api.ErrRefused, "tom clear")
			longer, f := mill.Appended(p, next, said(len(next), "tom stop "+stand))
			if f != api.OK {
				e = f
				break
			}
			next = longer
		}
		if slices.Equal(order, stops) {
			wantSame(t, "in order", 0, e, 0, api.OK)
			logOf(t, p, next, "tom clear")
		} else {
			wantSame(t, "in another order", 0, e, 0, api.ErrRefused)
		}
	}
}

// TestP10_10Slabs looks at random logs.
func TestP10_10Slabs(t *testing.T) {
	rnd := rand.New(rand.NewSource(1010))
	p := longPlant()
	seen := map[int]int{}
	for range 300 {
		s := stateOf(t, p, randomHand(rnd, rnd.Intn(300), nil).log)
		inLine, coils := map[string]bool{}, map[string]int{}
		for _, c := range s.Coils {
			coils[c.Slab]++
		}
		for _, x := range s.Slabs {
			seen[x.Place]++
			inLine[x.Slab.Name] = x.Place == api.MillInLine
			if (x.Place == api.MillInLine) != (x.Slab.Name == s.Line.Strip) || (x.Place == api.MillCoiled) != (coils[x.Slab.Name] == 1) || coils[x.Slab.Name] > 1 {
				t.Error(x, s.Line, s.Coils)
			}
			if x.Place != api.MillYard {
				wantForOrder(t, s, x)
			}
		}
		if s.Line.Strip != "" && !inLine[s.Line.Strip] {
			t.Error(s)
		}
	}
	wantSeen(t, seen, 10, api.MillYard, api.MillFurnace, api.MillInLine, api.MillCoiled, api.MillScrapped)
}

// wantForOrder wants that a slab suits its order, which has a schedule if the slab was
// drawn.
func wantForOrder(t *testing.T, s api.MillState, x api.MillSlab) {
	t.Helper()
	i := slices.IndexFunc(s.Orders, func(o api.MillOrder) bool { return o.Order.Name == x.Order })
	if i < 0 {
		t.Fatal("no order", x)
	}
	o := s.Orders[i]
	if x.Slab.Grade != o.Order.Grade || x.Slab.Width < o.Order.Width || x.Slab.Width > o.Order.Width+100 || x.Place != api.MillFurnace && !o.Planned {
		t.Error(x, o)
	}
	if x.Place == api.MillInLine {
		rules, e := pass.ParseRules(longPlant().Passes)
		answer, f := pass.HoldsFor(rules, o.Schedule)
		wantSame(t, "HoldsFor", answer, chain(e, f), api.AnswerYes, api.OK)
	}
}
