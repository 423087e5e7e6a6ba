package campaign_test

import (
	"math/rand"
	"slices"
	"testing"

	"cobble/api"
	"cobble/campaign"
)

func TestP1_4PlanFor(t *testing.T) {
	for _, x := range []struct {
		y       [][]string
		request []string
		work    int
	}{
		{exampleYard(), nil, 0},
		{exampleYard(), []string{"a"}, 2}, {exampleYard(), []string{"a", "c"}, 2}, {exampleYard(), []string{"c", "a"}, 1}, {exampleYard(), []string{"d", "c"}, 0},
		{exampleYard(), []string{"c"}, 0}, {exampleYard(), []string{"c", "b", "a", "d"}, 0},
		{[][]string{{"a", "b", "c"}}, []string{"c", "b"}, 0},
		// what makes room has to move again
		{[][]string{{"a", "c"}, {"b"}}, []string{"a", "b", "c"}, 2},
		{[][]string{names("a", 6), {"b"}}, []string{"b"}, 0},
		{[][]string{names("a", 6), names("b", 2)}, []string{"a1"}, 4},
		{[][]string{names("a", 4), names("b", 4)}, []string{"a3", "a0"}, 2},
		{[][]string{names("a", 6), nil, nil, nil}, names("a", 6), 5},
	} {
		l, e := campaign.PlanFor(x.y, x.request)
		if e != api.OK {
			t.Error(x, e)
			continue
		}
		if n, e := campaign.CheckPlan(x.y, x.request, l); e != api.OK || n != x.work {
			t.Error(x, l, n, e)
		}
		if len(x.request) == 0 && len(l) != 0 {
			t.Error("moves for an empty request", l)
		}
	}
}

func TestP1_4PlanForNone(t *testing.T) {
	for _, x := range []struct {
		y       [][]string
		request []string
	}{
		{[][]string{{"a", "b"}}, []string{"a"}},
		{[][]string{{"a", "b", "c"}}, []string{"c", "a"}},
		{[][]string{{"a", "b", "c"}}, []string{"c", "a", "b"}},
		{[][]string{names("a", 6), names("b", 2)}, []string{"a0"}},
		{[][]string{names("a", 4), names("b", 4)}, []string{"a0"}},
	} {
		if l, e := campaign.PlanFor(x.y, x.request); e != api.ErrNone || len(l) != 0 {
			t.Error(x, l, e)
		}
	}
}

func TestP1_4CheckPlan(t *testing.T) {
	y := exampleYard()
	blocked := [][]string{names("a", 6), {"b"}, nil}
	long := func(n int, last ...api.CampaignMove) []api.CampaignMove {
		var l []api.CampaignMove
		for i := range n {
			if i%2 == 0 {
				l = append(l, move(1, 2))
			} else {
				l = append(l, move(2, 1))
			}
		}
		return append(l, last...)
	}
	for i, x := range []struct {
		y       [][]string
		request []string
		plan    []api.CampaignMove
		n       int
		want    api.Errno
	}{
		{y, nil, nil, 0, api.OK},
		{y, []string{"a"}, []api.CampaignMove{move(0, 1), move(0, 1), out(0)}, 2, api.OK},
		{y, []string{"a", "c"}, []api.CampaignMove{move(0, 2), move(0, 1), out(0), out(2)}, 2, api.OK},
		{y, []string{"d", "c"}, []api.CampaignMove{out(1), out(0)}, 0, api.OK},
		// moves that are of no use are permitted, also at the end
		{y, []string{"d"}, []api.CampaignMove{move(0, 2), out(1), move(2, 1)}, 2, api.OK},
		{y, nil, []api.CampaignMove{move(0, 2)}, 1, api.OK},
		{y, []string{"d"}, long(38, out(1)), 38, api.OK}, {y, []string{"d"}, long(38, out(1), move(0, 1)), 39, api.OK}, {y, nil, long(40), 40, api.OK}, {y, nil, long(41), 0, api.ErrLarge}, {y, []string{"d"}, make([]api.CampaignMove, 41), 0, api.ErrLarge},
		{y, []string{"a"}, []api.CampaignMove{move(0, 2), move(0, 3)}, 1, api.ErrMissing}, {y, []string{"a"}, []api.CampaignMove{move(3, 0)}, 0, api.ErrMissing}, {y, []string{"a"}, []api.CampaignMove{move(0, 1), move(2, 1)}, 1, api.ErrZero}, {y, []string{"a"}, []api.CampaignMove{move(0, 1), move(0, 1), move(0, 0)}, 2, api.ErrForm},
		{blocked, []string{"b"}, []api.CampaignMove{move(1, 0)}, 0, api.ErrFull}, {blocked, []string{"b"}, []api.CampaignMove{move(0, 2), move(1, 0), out(0)}, 2, api.OK},
		{y, []string{"a"}, []api.CampaignMove{move(0, 2), out(0)}, 1, api.ErrRefused}, {y, []string{"a"}, []api.CampaignMove{out(0)}, 0, api.ErrRefused}, {y, []string{"c", "d"}, []api.CampaignMove{out(1), out(0)}, 0, api.ErrRefused}, {y, []string{"d"}, []api.CampaignMove{out(1), out(0)}, 1, api.ErrRefused}, {y, nil, []api.CampaignMove{out(0)}, 0, api.ErrRefused}, {y, []string{"a"}, []api.CampaignMove{out(2)}, 0, api.ErrZero},
		{y, []string{"a"}, nil, 0, api.ErrGap}, {y, []string{"a"}, []api.CampaignMove{move(0, 2)}, 1, api.ErrGap}, {y, []string{"c", "b"}, []api.CampaignMove{out(0), move(0, 1)}, 2, api.ErrGap}, {y, []string{"c", "d"}, []api.CampaignMove{out(0)}, 1, api.ErrGap},
	} {
		if n, e := campaign.CheckPlan(x.y, x.request, x.plan); e != x.want || n != x.n {
			t.Error(i, x, n, e)
		}
	}
}

// TestP1_8EachBlockingSlabMoves compares plans with the work that trying all
// moves finds.
func TestP1_8EachBlockingSlabMoves(t *testing.T) {
	rnd := rand.New(rand.NewSource(8))
	none := 0
	for _, x := range []struct{ piles, slabs, times int }{{1, 8, 100}, {2, 5, 150}, {2, 8, 300}, {3, 5, 150}, {3, 6, 20}, {4, 5, 30}} {
		for range x.times {
			y, request := randomYard(rnd, x.piles, x.slabs)
			want := leastWorkByTrying(t, y, request)
			l, e := campaign.PlanFor(y, request)
			if want < 0 {
				none++
				if e != api.ErrNone || len(l) != 0 {
					t.Fatal(y, request, l, e)
				}
				continue
			}
			blocked, f := campaign.BlockedBy(y, request)
			work, g := campaign.CheckPlan(y, request, l)
			if e != api.OK || f != api.OK || g != api.OK || work != want || work < len(blocked) {
				t.Fatal(y, request, l, work, want, blocked, e, f, g)
			}
		}
	}
	if none == 0 {
		t.Error("no yard without a plan was tried")
	}
}

// TestP1_8LargestYards plans for yards that are as large as the limits permit.
func TestP1_8LargestYards(t *testing.T) {
	rnd := rand.New(rand.NewSource(88))
	for piles := 2; piles <= 4; piles++ {
		for range 200 {
			all := names("s", 8)
			rnd.Shuffle(8, func(i, j int) { all[i], all[j] = all[j], all[i] })
			y := make([][]string, piles)
			high := 2 + rnd.Intn(5)
			y[0], y[1] = slices.Clone(all[:high]), slices.Clone(all[high:])
			rnd.Shuffle(8, func(i, j int) { all[i], all[j] = all[j], all[i] })
			l, e := campaign.PlanFor(y, all)
			if e == api.ErrNone && piles == 2 {
				continue
			}
			blocked, _ := campaign.BlockedBy(y, all)
			if work, f := campaign.CheckPlan(y, all, l); e != api.OK || f != api.OK || work < len(blocked) {
				t.Fatal(y, all, l, work, e, f)
			}
		}
	}
}
