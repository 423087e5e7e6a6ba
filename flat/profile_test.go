package flat_test

import (
	"math"
	"math/rand"
	"testing"

	"cobble/api"
	"cobble/flat"
)

// profileCases are profiles, and their errors.
func profileCases() []profileCase {
	return []profileCase{
		{exampleProfile(), api.OK}, {repeated(1, 3), api.OK}, {repeated(100000, 3), api.OK}, {repeated(5, 5), api.OK}, {repeated(5, 7), api.OK}, {repeated(100000, 9), api.OK},
		{nil, api.ErrShape}, {numbers(), api.ErrShape}, {numbers(5), api.ErrShape}, {numbers(0), api.ErrShape}, {numbers(5, 5), api.ErrShape}, {repeated(5, 4), api.ErrShape}, {repeated(5, 6), api.ErrShape}, {repeated(5, 8), api.ErrShape}, {repeated(5, 10), api.ErrShape}, {repeated(0, 12), api.ErrShape},
		{repeated(5, 11), api.ErrLarge}, {repeated(0, 11), api.ErrLarge}, {repeated(5, 101), api.ErrLarge},
		{numbers(0, 5, 5), api.ErrRange}, {numbers(5, -1, 5), api.ErrRange}, {numbers(5, 5, 100001), api.ErrRange}, {numbers(5, math.MinInt, 5), api.ErrRange}, {numbers(5, 5, math.MaxInt), api.ErrRange}, {with(repeated(5, 9), 8, 0), api.ErrRange},
	}
}

type profileCase struct {
	p    []int
	want api.Errno
}

func TestP7_1CheckProfile(t *testing.T) {
	for i, x := range profileCases() {
		if e := flat.CheckProfile(x.p); e != x.want {
			t.Error(i, e)
		}
		if _, e := flat.CrownOf(x.p); e != x.want {
			t.Error(i, e)
		}
		if _, e := flat.WedgeOf(x.p); e != x.want {
			t.Error(i, e)
		}
	}
}

func TestP7_1CrownAndWedge(t *testing.T) {
	for i, x := range []struct {
		p     []int
		crown api.Frac
		wedge int
	}{
		{exampleProfile(), frac(3, 1), -2}, {numbers(100, 100, 100), frac(0, 1), 0}, {numbers(100, 100, 101), frac(-1, 2), -1}, {numbers(101, 100, 100), frac(-1, 2), 1}, {numbers(100, 104, 103), frac(5, 2), -3},
		{numbers(100, 1, 100), frac(-99, 1), 0}, {numbers(100000, 1, 99999), frac(-199997, 2), 1}, {numbers(1, 100000, 1), frac(99999, 1), 0}, {numbers(1, 100000, 2), frac(199997, 2), -1},
		{numbers(10, 99, 14, 77, 12), frac(3, 1), -2}, {numbers(5, 1, 2, 3, 8, 9, 10, 11, 6), frac(5, 2), -1},
	} {
		if f, e := flat.CrownOf(x.p); f != x.crown || e != api.OK {
			t.Error(i, f, e)
		}
		if n, e := flat.WedgeOf(x.p); n != x.wedge || e != api.OK {
			t.Error(i, n, e)
		}
	}
}

func TestP7_1CrownsByHand(t *testing.T) {
	rnd := rand.New(rand.NewSource(71))
	for range 3000 {
		p := randomProfile(rnd, randomCount(rnd), []int{3, 100000}[rnd.Intn(2)])
		if f, e := flat.CrownOf(p); f != fracOf(crownByHand(p)) || e != api.OK {
			t.Fatal(p, f, e)
		}
		if n, e := flat.WedgeOf(p); n != p[0]-p[len(p)-1] || e != api.OK {
			t.Fatal(p, n, e)
		}
	}
}

func TestP7_2ChangesOf(t *testing.T) {
	for i, x := range []struct {
		before, after []int
		want          []api.Frac
		err           api.Errno
	}{
		{numbers(200, 204, 200), numbers(100, 101, 100), exampleChanges(), api.OK},
		{exampleProfile(), exampleProfile(), []api.Frac{frac(0, 1), frac(0, 1), frac(0, 1)}, api.OK},
		{numbers(1, 1, 2), numbers(1, 1, 1), []api.Frac{frac(-1, 4), frac(-1, 4), frac(1, 2)}, api.OK},
		{numbers(1, 1, 1), numbers(1, 1, 2), []api.Frac{frac(1, 3), frac(1, 3), frac(-1, 3)}, api.OK},
		{numbers(100000, 1, 1), numbers(1, 100000, 100000), nil, api.ErrLarge},
		{numbers(99991, 99989, 99971), numbers(99961, 99929, 99923), nil, api.ErrLarge},
		{nil, nil, nil, api.ErrShape}, {repeated(5, 11), nil, nil, api.ErrLarge}, {numbers(0, 1, 1), nil, nil, api.ErrRange},
		{exampleProfile(), nil, nil, api.ErrShape}, {exampleProfile(), repeated(5, 4), nil, api.ErrShape}, {exampleProfile(), repeated(5, 11), nil, api.ErrLarge}, {exampleProfile(), numbers(1, 1, 0), nil, api.ErrRange}, {exampleProfile(), with(repeated(5, 5), 4, 0), nil, api.ErrRange},
		{exampleProfile(), repeated(5, 5), nil, api.ErrShape}, {repeated(5, 9), repeated(5, 7), nil, api.ErrShape},
	} {
		l, e := flat.ChangesOf(x.before, x.after)
		if e != x.err || e == api.OK && !alike(l, x.want) || e != api.OK && len(l) != 0 {
			t.Error(i, l, e)
		}
	}
}

// TestP7_2ChangesByHand has changes whose parts are just not too large, too.
func TestP7_2ChangesByHand(t *testing.T) {
	rnd := rand.New(rand.NewSource(72))
	seen := map[api.Errno]int{}
	for range 20000 {
		n, most := randomCount(rnd), []int{3, 100, 1000, 6000, 100000}[rnd.Intn(5)]
		before, after := randomProfile(rnd, n, most), randomProfile(rnd, n, most)
		var want []api.Frac
		wanted := api.OK
		for _, x := range changesByHand(before, after) {
			want = append(want, fracOf(x))
			if !isSmall(x) {
				wanted = api.ErrLarge
			}
		}
		if wanted != api.OK {
			want = nil
		}
		if l, e := flat.ChangesOf(before, after); !alike(l, want) || e != wanted {
			t.Fatal(before, after, l, e)
		}
		seen[wanted]++
	}
	wantSeen(t, seen, 1000, api.OK, api.ErrLarge)
}

// TestP7_2LargestChanges has first changes of which a part is MaxPart, or greater
// by 1.
func TestP7_2LargestChanges(t *testing.T) {
	for i, x := range []struct {
		before, after []int
		first         api.Frac
		err           api.Errno
	}{
		{numbers(1, 99998, 1), numbers(10000, 10, 1), frac(-999989989, 1000000000), api.OK},
		{numbers(1, 92013, 92013, 92013, 92013), numbers(2717, 1, 1, 1, 1), frac(-999997280, 1000000001), api.ErrLarge},
		{numbers(99999, 47499, 47499, 47500, 47500), numbers(1, 2500, 2500, 2501, 2501), frac(1000000000, 289997), api.OK},
		{numbers(99999, 72499, 72499, 72499, 72499), numbers(1, 2500, 2501, 2501, 2501), frac(1000000001, 389995), api.ErrLarge},
	} {
		all := changesByHand(x.before, x.after)
		if all[0].Cmp(ratio(x.first)) != 0 || !isSmall(all[1]) || !isSmall(all[len(all)-1]) {
			t.Error(i, all)
		}
		l, e := flat.ChangesOf(x.before, x.after)
		if e != x.err || e == api.OK && l[0] != x.first || e != api.OK && len(l) != 0 {
			t.Error(i, l, e)
		}
	}
}

func TestP7_2BucklesOf(t *testing.T) {
	const no, maybe, yes = api.AnswerNo, api.AnswerMaybe, api.AnswerYes
	for i, x := range []struct {
		r       api.FlatLaw
		changes []api.Frac
		want    []int
	}{
		{exampleLaw(), exampleChanges(), numbers(no, yes, no)},
		{exampleLaw(), []api.Frac{frac(1, 2000), frac(1, 500), frac(501, 1000000)}, numbers(no, no, maybe)},
		{exampleLaw(), []api.Frac{frac(1, 1000), frac(3, 1000), frac(1001, 1000000)}, numbers(maybe, maybe, yes)},
		{exampleLaw(), []api.Frac{frac(1000001, 1000000000), frac(3000001, 1000000000), frac(1, 1)}, numbers(yes, yes, yes)},
		{exampleLaw(), []api.Frac{frac(500001, 1000000000), frac(2000001, 1000000000), frac(-1, 1)}, numbers(maybe, maybe, no)},
		{exampleLaw(), []api.Frac{frac(499999, 1000000000), frac(1999999, 1000000000), frac(0, 1)}, numbers(no, no, no)},
		{exampleLaw(), []api.Frac{frac(3, 2000), frac(3, 2000), frac(3, 2000), frac(3, 2000)}, numbers(yes, no, no, yes)},
		{exampleLaw(), []api.Frac{frac(999999937, 1000000000), frac(-999999937, 1000000000), frac(1000000000, 1), frac(-1000000000, 1), frac(1, 1000000000)}, numbers(yes, no, yes, no, no)},
		{law(ends(0, 0), ends(0, 0)), []api.Frac{frac(0, 1), frac(0, 1), frac(1, 1000000000)}, numbers(no, no, yes)},
		{law(ends(0, 10000), ends(10000, 10000)), []api.Frac{frac(1, 100), frac(1, 100), frac(1, 1000000000)}, numbers(maybe, no, maybe)},
	} {
		if l, e := flat.BucklesOf(x.r, x.changes); !alike(l, x.want) || e != api.OK {
			t.Error(i, l, e)
		}
	}
}

func TestP7_2BucklesOfErrors(t *testing.T) {
	var r api.FlatLaw
	var changes []api.Frac
	call := func() api.Errno {
		l, e := flat.BucklesOf(r, changes)
		if e != api.OK && len(l) != 0 {
			t.Error(l, e)
		}
		return e
	}
	r = law(ends(10001, -1), ends(math.MaxInt, math.MinInt))
	wantErrors(t, call,
		step{api.ErrRange, func() { r.Edge.Lo = 10000 }},
		step{api.ErrRange, func() { r.Edge.Hi = 9999 }},
		step{api.ErrRange, func() { r.Center.Lo = 1 }},
		step{api.ErrRange, func() { r.Center.Hi = 0 }},
		step{api.ErrOrder, func() { r.Edge.Hi = 10000 }},
		step{api.ErrOrder, func() { r.Center.Lo = 0; changes = []api.Frac{{}, {}} }},
		step{api.ErrShape, func() { changes = make([]api.Frac, 10) }},
		step{api.ErrLarge, func() { changes = make([]api.Frac, 9) }},
		step{api.ErrForm, func() { changes = []api.Frac{frac(1000000001, 1), frac(1, -1), frac(0, 1)} }},
		step{api.ErrRange, func() { changes[0].Num = 1 }},
		step{api.ErrForm, func() { changes[1].Den = 1 }},
	)
	for i, x := range []struct {
		f    api.Frac
		want api.Errno
	}{
		{frac(1, 0), api.ErrForm}, {frac(0, 0), api.ErrForm}, {frac(0, 2), api.ErrForm}, {frac(2, 2), api.ErrForm}, {frac(-6, 9), api.ErrForm}, {frac(1, -2), api.ErrForm}, {frac(math.MinInt, math.MinInt), api.ErrForm}, {frac(math.MinInt, 2), api.ErrForm}, {frac(math.MaxInt, math.MaxInt), api.ErrForm}, {frac(1, math.MinInt), api.ErrForm}, {frac(2000000000, 4), api.ErrForm},
		{frac(math.MinInt, 1), api.ErrRange}, {frac(math.MinInt, 3), api.ErrRange}, {frac(math.MaxInt, 1), api.ErrRange}, {frac(1, math.MaxInt), api.ErrRange}, {frac(1000000001, 1), api.ErrRange}, {frac(-1000000001, 1), api.ErrRange}, {frac(1, 1000000001), api.ErrRange},
		{frac(1000000000, 1), api.OK}, {frac(-1000000000, 1), api.OK}, {frac(1, 1000000000), api.OK}, {frac(0, 1), api.OK},
	} {
		for at := range 3 {
			changes = exampleChanges()
			changes[at] = x.f
			if e := call(); e != x.want {
				t.Error(i, at, e)
			}
		}
	}
}

// TestP7_2LawErrors has one fault in a law at a time.
func TestP7_2LawErrors(t *testing.T) {
	good := ends(0, 10000)
	for i, x := range []struct {
		r    api.Range
		want api.Errno
	}{
		{good, api.OK}, {ends(10000, 10000), api.OK}, {ends(0, 0), api.OK}, {ends(1, 0), api.ErrOrder}, {ends(10000, 0), api.ErrOrder}, {ends(10000, 9999), api.ErrOrder},
		{ends(-1, 0), api.ErrRange}, {ends(0, -1), api.ErrRange}, {ends(0, 10001), api.ErrRange}, {ends(10001, 0), api.ErrRange}, {ends(10001, 10001), api.ErrRange}, {ends(math.MinInt, 0), api.ErrRange}, {ends(0, math.MaxInt), api.ErrRange},
	} {
		for _, r := range []api.FlatLaw{law(x.r, good), law(good, x.r)} {
			l, e := flat.BucklesOf(r, exampleChanges())
			if e != x.want || e != api.OK && len(l) != 0 {
				t.Error(i, r, l, e)
			}
		}
	}
}

func TestP7_2AnswersByHand(t *testing.T) {
	rnd := rand.New(rand.NewSource(720))
	seen := map[int]int{}
	for range 5000 {
		most := []int{3, api.MaxFlatLaw}[rnd.Intn(2)]
		r := law(randomEnds(rnd, 0, most), randomEnds(rnd, 0, most))
		var changes []api.Frac
		for range randomFrom(rnd, 3, api.MaxFlatNodes) {
			den := []int{1000, 1000000, 1000000000}[rnd.Intn(3)]
			changes = append(changes, fracOf(rat(randomFrom(rnd, -den/1000, most*(den/1000)/500), den)))
		}
		l, e := flat.BucklesOf(r, changes)
		if !alike(l, answersByHand(r, changes)) || e != api.OK {
			t.Fatal(r, changes, l, e)
		}
		for _, answer := range l {
			seen[answer]++
		}
	}
	wantSeen(t, seen, 1000, api.AnswerNo, api.AnswerMaybe, api.AnswerYes)
}

func TestP7_9InTheMean(t *testing.T) {
	rnd := rand.New(rand.NewSource(79))
	seen := map[bool]int{}
	for range 5000 {
		n, most, factor := randomCount(rnd), []int{1, 3, 100, 1000}[rnd.Intn(4)], randomFrom(rnd, 1, 100)
		p := randomProfile(rnd, n, most)
		var thicker []int
		for _, h := range p {
			thicker = append(thicker, h*factor)
		}
		for _, x := range [][2][]int{{p, thicker}, {thicker, p}} {
			l, e := flat.ChangesOf(x[0], x[1])
			for _, f := range l {
				if f != frac(0, 1) {
					t.Fatal(p, factor, l)
				}
			}
			if e != api.OK || len(l) != n {
				t.Fatal(p, factor, e)
			}
		}
		l, e := flat.ChangesOf(p, randomProfile(rnd, n, []int{1, 100}[rnd.Intn(2)]))
		if e != api.OK {
			continue
		}
		signs := map[int]bool{}
		for _, f := range l {
			signs[ratio(f).Sign()] = true
		}
		if signs[1] != signs[-1] {
			t.Fatal(p, l)
		}
		seen[signs[1]]++
	}
	wantSeen(t, seen, 10, false, true)
}
