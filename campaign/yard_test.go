package campaign_test

import (
	"math"
	"math/rand"
	"slices"
	"testing"

	"cobble/api"
	"cobble/campaign"
)

func TestP1_3CheckYard(t *testing.T) {
	for i, x := range []struct {
		y    [][]string
		at   int
		want api.Errno
	}{
		{nil, 0, api.ErrShape}, {[][]string{}, 0, api.ErrShape},
		{[][]string{nil}, 0, api.OK}, {[][]string{{}, nil, {}, {}}, 0, api.OK}, {make([][]string, 5), 0, api.ErrLarge},
		{exampleYard(), 0, api.OK},
		{[][]string{{"1"}, nil, nil, nil, nil}, 0, api.ErrLarge},
		{[][]string{names("a", 6)}, 0, api.OK}, {[][]string{names("a", 7)}, 0, api.ErrLarge}, {[][]string{{"a"}, names("a", 7)}, 1, api.ErrLarge},
		{[][]string{{"a"}, nil, {"b", "1", "b"}}, 2, api.ErrName}, {[][]string{{"a"}, {"a", "1"}}, 1, api.ErrExists}, {[][]string{{"a", "1"}, {"a"}}, 0, api.ErrName}, {[][]string{{"1", "a", "a"}}, 0, api.ErrName}, {[][]string{{"a", "a", "1"}}, 0, api.ErrExists},
		{[][]string{nil, nil, {"a", "b"}, {"c", "b"}}, 3, api.ErrExists}, {[][]string{{"a"}, {"b", "a"}, {"1"}}, 1, api.ErrExists},
		{[][]string{{"a"}, append(names("b", 6), "1")}, 1, api.ErrLarge}, {[][]string{{"1"}, names("b", 7)}, 0, api.ErrName},
		{[][]string{names("a", 6), names("b", 2)}, 0, api.OK}, {[][]string{names("a", 6), names("b", 3)}, 0, api.ErrLarge}, {[][]string{names("a", 2), names("b", 2), names("c", 2), names("d", 2)}, 0, api.OK}, {[][]string{names("a", 3), names("b", 2), names("c", 2), names("d", 2)}, 0, api.ErrLarge},
		{[][]string{names("a", 6), names("b", 6), {"1"}}, 2, api.ErrName}, {[][]string{names("a", 6), names("b", 6), {"a1"}}, 2, api.ErrExists}, {[][]string{names("a", 6), names("b", 6), names("c", 7)}, 2, api.ErrLarge},
	} {
		if at, e := campaign.CheckYard(x.y); e != x.want || at != x.at {
			t.Error(i, x, at, e)
		}
	}
}

func TestP1_3Moved(t *testing.T) {
	for _, x := range []struct {
		m    api.CampaignMove
		want [][]string
	}{
		{move(0, 2), [][]string{{"a", "b"}, {"d"}, {"c"}}},
		{move(0, 1), [][]string{{"a", "b"}, {"d", "c"}, nil}},
		{move(1, 0), [][]string{{"a", "b", "c", "d"}, nil, nil}},
		{out(0), [][]string{{"a", "b"}, {"d"}, nil}},
		{out(1), [][]string{{"a", "b", "c"}, nil, nil}},
	} {
		y, e := campaign.Moved(exampleYard(), x.m)
		if e != api.OK || !alikeYards(y, x.want) {
			t.Error(x, y, e)
		}
	}
}

func TestP1_3MovedErrors(t *testing.T) {
	full := [][]string{names("a", 6), {"b"}, nil}
	bad := [][]string{{"a"}, {"a"}}
	for _, x := range []struct {
		y    [][]string
		m    api.CampaignMove
		want api.Errno
	}{
		{nil, move(0, 0), api.ErrShape}, {bad, move(5, 5), api.ErrExists}, {[][]string{{"1"}}, move(9, 9), api.ErrName},
		{full, move(-1, 0), api.ErrMissing}, {full, move(3, 0), api.ErrMissing}, {full, move(0, 3), api.ErrMissing}, {full, move(0, -2), api.ErrMissing}, {full, move(2, 3), api.ErrMissing}, {full, move(3, api.CampaignOut), api.ErrMissing}, {full, move(-1, -1), api.ErrMissing}, {full, move(math.MinInt, 0), api.ErrMissing}, {full, move(0, math.MaxInt), api.ErrMissing},
		{full, move(2, 0), api.ErrZero}, {full, move(2, 2), api.ErrZero}, {full, out(2), api.ErrZero},
		{full, move(1, 1), api.ErrForm}, {full, move(0, 0), api.ErrForm},
		{full, move(1, 0), api.ErrFull},
		{full, out(0), api.OK}, {full, move(0, 1), api.OK},
	} {
		y, e := campaign.Moved(x.y, x.m)
		if e != x.want || e != api.OK && len(y) != 0 {
			t.Error(x, y, e)
		}
	}
	almost := [][]string{names("a", 5), {"b"}}
	if y, e := campaign.Moved(almost, move(1, 0)); e != api.OK || !alikeYards(y, [][]string{append(names("a", 5), "b"), nil}) {
		t.Error(y, e)
	}
}

func TestP1_3BlockedBy(t *testing.T) {
	for _, x := range []struct {
		y             [][]string
		request, want []string
	}{
		{exampleYard(), []string{"a"}, []string{"b", "c"}},
		{exampleYard(), []string{"a", "c"}, []string{"b", "c"}},
		{exampleYard(), []string{"c", "a"}, []string{"b"}},
		{exampleYard(), []string{"c", "b", "a"}, nil},
		{exampleYard(), []string{"b"}, []string{"c"}},
		{exampleYard(), []string{"c"}, nil}, {exampleYard(), []string{"d"}, nil}, {exampleYard(), nil, nil},
		{exampleYard(), []string{"d", "a", "c", "b"}, []string{"b", "c"}},
		{[][]string{{"d", "b"}, {"a", "c"}}, []string{"a", "d"}, []string{"b", "c"}},
		{[][]string{{"z", "a", "y", "b"}, {"x"}, {"c", "w"}}, []string{"a", "c", "b"}, []string{"y", "b", "w"}},
		{[][]string{{"a", "b", "c", "d"}}, []string{"b", "d", "c"}, []string{"c", "d"}},
	} {
		if l, e := campaign.BlockedBy(x.y, x.request); e != api.OK || !slices.Equal(l, x.want) {
			t.Error(x, l, e)
		}
	}
}

// TestP1_3BlockedByDefinition compares each pair of slabs with the definition.
func TestP1_3BlockedByDefinition(t *testing.T) {
	rnd := rand.New(rand.NewSource(3))
	for range 1000 {
		y, request := randomYard(rnd, 1+rnd.Intn(4), 8)
		var want []string
		for _, pile := range y {
			for high, name := range pile {
				at := slices.Index(request, name)
				blocks := slices.ContainsFunc(pile[:high], func(low string) bool {
					i := slices.Index(request, low)
					return i >= 0 && (at < 0 || at > i)
				})
				if blocks {
					want = append(want, name)
				}
			}
		}
		if l, e := campaign.BlockedBy(y, request); e != api.OK || !slices.Equal(l, want) {
			t.Fatal(y, request, l, want, e)
		}
	}
}

func TestP1_3ErrorsOfYardAndRequest(t *testing.T) {
	for _, x := range []struct {
		y       [][]string
		request []string
		want    api.Errno
	}{
		{nil, []string{"x"}, api.ErrShape}, {[][]string{{"a", "a"}}, []string{"x"}, api.ErrExists}, {[][]string{nil, {"1"}}, nil, api.ErrName}, {make([][]string, 5), []string{"a"}, api.ErrLarge},
		{exampleYard(), []string{"x"}, api.ErrMissing}, {exampleYard(), []string{""}, api.ErrMissing}, {exampleYard(), []string{"a", "a"}, api.ErrDouble}, {exampleYard(), []string{"a", "x", "a"}, api.ErrMissing}, {exampleYard(), []string{"a", "a", "x"}, api.ErrDouble}, {exampleYard(), []string{"a", "d", "b", "d"}, api.ErrDouble}, {exampleYard(), []string{"x", "x"}, api.ErrMissing},
	} {
		if l, e := campaign.BlockedBy(x.y, x.request); e != x.want || len(l) != 0 {
			t.Error(x, l, e)
		}
		if l, e := campaign.PlanFor(x.y, x.request); e != x.want || len(l) != 0 {
			t.Error(x, l, e)
		}
		if n, e := campaign.CheckPlan(x.y, x.request, make([]api.CampaignMove, 50)); e != x.want || n != 0 {
			t.Error(x, n, e)
		}
	}
}
