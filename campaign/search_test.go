package campaign_test

import (
	"math"
	"math/rand"
	"slices"
	"testing"

	"cobble/api"
	"cobble/campaign"
)

func TestP1_5Cheapest(t *testing.T) {
	same := slices.Repeat([]api.CampaignItem{item(1000, 1000, 10, 1)}, 7)
	free := wideRules()
	free.WidthPrice, free.ThicknessPrice, free.HardnessPrice = 0, 0, 0
	heavy := exampleRules()
	heavy.Metres = 3999
	exact := exampleRules()
	exact.Metres = 4000
	for i, x := range []struct {
		r    api.CampaignRules
		l    []api.CampaignItem
		want []int
		cost int
		err  api.Errno
	}{
		{exampleRules(), exampleItems(), []int{1, 0, 2}, 270, api.OK},
		{exact, exampleItems(), []int{1, 0, 2}, 270, api.OK}, {heavy, exampleItems(), nil, 0, api.ErrNone},
		{exampleRules(), exampleItems()[:1], []int{0}, 0, api.OK}, {exampleRules(), exampleItems()[:2], []int{1, 0}, 110, api.OK},
		{exampleRules(), []api.CampaignItem{exampleItems()[0], exampleItems()[2]}, nil, 0, api.ErrNone},
		// of several the lexicographically first one
		{wideRules(), same, []int{0, 1, 2, 3, 4, 5, 6}, 0, api.OK},
		{free, []api.CampaignItem{item(1000, 1, 1, 1), item(1010, 1, 1, 1), item(1020, 1, 1, 1)}, []int{2, 1, 0}, 0, api.OK},
		{wideRules(), []api.CampaignItem{item(1000, 1, 1, 1), item(1000, 9, 1, 1), item(1000, 4, 1, 1)}, []int{0, 2, 1}, 8, api.OK},
	} {
		if s, cost, e := campaign.Cheapest(x.r, x.l); e != x.err || cost != x.cost || !slices.Equal(s, x.want) {
			t.Error(i, s, cost, e)
		}
	}
}

func TestP1_5BoundOf(t *testing.T) {
	for i, x := range []struct {
		l      []api.CampaignItem
		prices []int
		want   int
		err    api.Errno
	}{
		{exampleItems(), []int{0, 0, 0}, 180, api.OK}, {exampleItems(), []int{0, 20, 0}, 160, api.OK}, {exampleItems(), []int{0, -100, 0}, 130, api.OK},
		{exampleItems()[:1], []int{0}, 0, api.OK}, {exampleItems()[:1], []int{10000}, 0, api.OK}, {exampleItems()[:1], []int{-10000}, 0, api.OK},
		{exampleItems()[:2], []int{7, -3}, 110, api.OK},
		{exampleItems(), []int{10000, -10000, 10000}, boundByTrying(exampleRules(), exampleItems(), []int{10000, -10000, 10000}), api.OK},
		{exampleItems(), nil, 0, api.ErrShape}, {exampleItems(), []int{0, 0}, 0, api.ErrShape}, {exampleItems(), []int{0, 0, 0, 0}, 0, api.ErrShape}, {exampleItems(), []int{99999, 0}, 0, api.ErrShape},
		{exampleItems(), []int{10001, 0, 0}, 0, api.ErrRange}, {exampleItems(), []int{0, 0, -10001}, 0, api.ErrRange}, {exampleItems(), []int{0, math.MinInt, 0}, 0, api.ErrRange}, {exampleItems(), []int{0, 0, math.MaxInt}, 0, api.ErrRange}, {exampleItems()[:1], []int{10001}, 0, api.ErrRange},
		{nil, []int{99999}, 0, api.ErrShape}, {[]api.CampaignItem{{}}, nil, 0, api.ErrRange},
	} {
		if n, e := campaign.BoundOf(exampleRules(), x.l, x.prices); e != x.err || n != x.want {
			t.Error(i, n, e)
		}
	}
}

func TestP1_5BoundByTrying(t *testing.T) {
	rnd := rand.New(rand.NewSource(55))
	for range 300 {
		n := 1 + rnd.Intn(5)
		r, l := randomMix(rnd, n)
		prices := randomPrices(rnd, n, 200)
		if b, e := campaign.BoundOf(r, l, prices); e != api.OK || b != boundByTrying(r, l, prices) {
			t.Fatal(r, l, prices, b, e)
		}
	}
	r, l := randomMix(rnd, 6)
	prices := randomPrices(rnd, 6, 200)
	if b, e := campaign.BoundOf(r, l, prices); e != api.OK || b != boundByTrying(r, l, prices) {
		t.Fatal(r, l, prices, b, e)
	}
}

func TestP1_9NoCampaignIsCheaper(t *testing.T) {
	rnd := rand.New(rand.NewSource(9))
	found, none := 0, 0
	for range 800 {
		n := 1 + rnd.Intn(5)
		r, l := randomMix(rnd, n)
		bound, e := campaign.BoundOf(r, l, randomPrices(rnd, n, 150))
		if e != api.OK {
			t.Fatal(r, l, e)
		}
		var best []int
		for _, s := range permutationsOf(firstNumbers(n)) {
			cost := sequenceCost(r, l, s)
			if cost < bound {
				t.Fatal("cheaper than the bound", r, l, s, cost, bound)
			}
			if holdsByTable(r, l, s) && (best == nil || cost < sequenceCost(r, l, best)) {
				best = s
			}
		}
		s, cost, e := campaign.Cheapest(r, l)
		if best == nil {
			none++
			if e != api.ErrNone || len(s) != 0 || cost != 0 {
				t.Fatal(r, l, s, cost, e)
			}
			continue
		}
		found++
		if e != api.OK || !slices.Equal(s, best) || cost != sequenceCost(r, l, best) {
			t.Fatal(r, l, s, best, cost, e)
		}
	}
	if found == 0 || none == 0 {
		t.Error("not everything was tried", found, none)
	}
}

func TestP1_6InsertedAt(t *testing.T) {
	flat := []api.CampaignItem{item(1000, 1, 1, 1), item(1000, 5, 1, 1), item(1000, 3, 1, 1)}
	high := append(slices.Clone(flat[:2]), item(1000, 9, 1, 1))
	light := exampleRules()
	light.Metres = 3999
	for i, x := range []struct {
		r    api.CampaignRules
		l    []api.CampaignItem
		s    []int
		want int
		err  api.Errno
	}{
		{exampleRules(), exampleItems(), []int{1, 0}, 2, api.OK},
		{exampleRules(), exampleItems(), nil, 0, api.OK}, {exampleRules(), exampleItems(), []int{0}, 0, api.ErrNone}, {light, exampleItems(), []int{1, 0}, 0, api.ErrNone},
		// the sequence itself need not hold
		{exampleRules(), []api.CampaignItem{exampleItems()[0], exampleItems()[2], exampleItems()[1]}, []int{0, 1}, 0, api.OK},
		{exampleRules(), exampleItems(), []int{2}, 0, api.ErrDouble}, {exampleRules(), exampleItems(), []int{1, 0, 2}, 0, api.ErrDouble}, {exampleRules(), exampleItems()[:1], []int{0}, 0, api.ErrDouble}, {light, exampleItems(), []int{1, 0, 2}, 0, api.ErrDouble},
		{exampleRules(), exampleItems()[:1], nil, 0, api.OK},
		{wideRules(), flat, []int{0, 1}, 1, api.OK}, {wideRules(), flat, []int{1, 0}, 1, api.OK}, {wideRules(), flat, []int{1}, 0, api.OK},
		{wideRules(), high, []int{0, 1}, 2, api.OK}, {wideRules(), high, []int{1, 0}, 0, api.OK},
	} {
		if p, e := campaign.InsertedAt(x.r, x.l, x.s); e != x.err || p != x.want {
			t.Error(i, p, e)
		}
	}
}

func TestP1_6InsertedByTrying(t *testing.T) {
	rnd := rand.New(rand.NewSource(6))
	found, none := 0, 0
	for range 3000 {
		n := 1 + rnd.Intn(6)
		r, l := randomMix(rnd, n)
		s := rnd.Perm(n - 1)
		s = s[:len(s)-rnd.Intn(min(2, n))]
		want, least := -1, 0
		for p := 0; p <= len(s); p++ {
			longer := slices.Concat(s[:p], []int{n - 1}, s[p:])
			cost := sequenceCost(r, l, longer)
			if holdsByTable(r, l, longer) && (want < 0 || cost < least) {
				want, least = p, cost
			}
		}
		p, e := campaign.InsertedAt(r, l, s)
		if want < 0 {
			none++
			if e != api.ErrNone || p != 0 {
				t.Fatal(r, l, s, p, e)
			}
			continue
		}
		found++
		if e != api.OK || p != want {
			t.Fatal(r, l, s, p, want, e)
		}
	}
	if found == 0 || none == 0 {
		t.Error("not everything was tried", found, none)
	}
}

func TestP1_6Contradicting(t *testing.T) {
	light := exampleRules()
	light.Metres = 1500
	few := exampleRules()
	few.Metres = 3500
	few.ThicknessJump, few.HardnessJump, few.WidthUp, few.WidthDown = 300000, 99, 300000, 300000
	for i, x := range []struct {
		r    api.CampaignRules
		l    []api.CampaignItem
		want []int
		err  api.Errno
	}{
		// 0 and 2 contradict each other, although 1, 0, 2 holds
		{exampleRules(), exampleItems(), []int{0, 2}, api.OK},
		{exampleRules(), exampleItems()[:2], nil, api.ErrNone}, {exampleRules(), exampleItems()[:1], nil, api.ErrNone},
		{light, exampleItems(), []int{2}, api.OK},
		{few, exampleItems(), []int{0, 1, 2}, api.OK},
		{light, []api.CampaignItem{exampleItems()[2], exampleItems()[0], exampleItems()[2]}, []int{0}, api.OK},
	} {
		if s, e := campaign.Contradicting(x.r, x.l); e != x.err || !slices.Equal(s, x.want) {
			t.Error(i, s, e)
		}
	}
}

func TestP1_12Contradictions(t *testing.T) {
	rnd := rand.New(rand.NewSource(12))
	sizes := map[int]int{}
	for range 1500 {
		n := 1 + rnd.Intn(5)
		r, l := randomMix(rnd, n)
		var want []int
		for _, set := range setsBySize(n) {
			if !hasCampaignByTrying(r, l, set) {
				want = set
				break
			}
		}
		s, e := campaign.Contradicting(r, l)
		sizes[len(want)]++
		if want == nil {
			if e != api.ErrNone || len(s) != 0 {
				t.Fatal(r, l, s, e)
			}
			if _, _, e := campaign.Cheapest(r, l); e != api.OK {
				t.Fatal("no contradiction, and no campaign", r, l, e)
			}
			continue
		}
		if e != api.OK || !slices.Equal(s, want) || !slices.IsSorted(s) {
			t.Fatal(r, l, s, want, e)
		}
	}
	for size := range 4 {
		if sizes[size] == 0 {
			t.Error("not everything was tried", sizes)
		}
	}
}

func TestP1_6LargestSets(t *testing.T) {
	var l []api.CampaignItem
	for i := range 7 {
		l = append(l, item(1000+10*i, 1000, 10, 100))
	}
	r := wideRules()
	r.Metres = 699
	if s, e := campaign.Contradicting(r, l); e != api.OK || !slices.Equal(s, firstNumbers(7)) {
		t.Error(s, e)
	}
	r.Metres = 700
	if s, e := campaign.Contradicting(r, l); e != api.ErrNone {
		t.Error(s, e)
	}
	if s, cost, e := campaign.Cheapest(r, l); e != api.OK || cost != 60 || !slices.Equal(s, []int{6, 5, 4, 3, 2, 1, 0}) {
		t.Error(s, cost, e)
	}
}
