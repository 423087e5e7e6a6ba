package campaign_test

import (
	"math"
	"math/rand"
	"strconv"
	"testing"

	"cobble/api"
	"cobble/campaign"
)

func TestP1_2CheckSlab(t *testing.T) {
	type set = func(s *api.CampaignSlab, n int)
	grade := func(s *api.CampaignSlab, n int) { s.Grade = n }
	thickness := func(s *api.CampaignSlab, n int) { s.Thickness = n }
	width := func(s *api.CampaignSlab, n int) { s.Width = n }
	length := func(s *api.CampaignSlab, n int) { s.Length = n }
	for i, x := range []struct {
		set  set
		n    int
		want api.Errno
	}{
		{grade, 0, api.ErrRange}, {grade, 1, api.OK}, {grade, 99, api.OK}, {grade, 100, api.ErrRange},
		{thickness, 0, api.ErrRange}, {thickness, 1, api.OK}, {thickness, 300000, api.OK}, {thickness, 300001, api.ErrRange},
		{width, 499, api.ErrRange}, {width, 500, api.OK}, {width, 2500, api.OK}, {width, 2501, api.ErrRange},
		{length, 0, api.ErrRange}, {length, 1, api.OK}, {length, 20000, api.OK}, {length, 20001, api.ErrRange},
		{grade, math.MinInt, api.ErrRange}, {thickness, math.MaxInt, api.ErrRange}, {width, math.MinInt, api.ErrRange}, {length, math.MaxInt, api.ErrRange},
	} {
		s := exampleSlab()
		x.set(&s, x.n)
		if e := campaign.CheckSlab(s); e != x.want {
			t.Error(i, s, e)
		}
	}
	if e := campaign.CheckSlab(api.CampaignSlab{Name: "1"}); e != api.ErrName {
		t.Error("the name is checked first", e)
	}
}

func TestP1_2FormatSlab(t *testing.T) {
	for _, x := range []struct {
		s    api.CampaignSlab
		want string
	}{
		{exampleSlab(), "s 5 200000 1250 8000"},
		{api.CampaignSlab{}, " 0 0 0 0"},
		{api.CampaignSlab{Name: "no name", Grade: -1, Thickness: math.MinInt, Width: math.MaxInt, Length: 7}, "no name -1 -9223372036854775808 9223372036854775807 7"},
	} {
		if s := campaign.FormatSlab(x.s); s != x.want {
			t.Errorf("%q in place of %q", s, x.want)
		}
	}
}

func TestP1_2ParseSlab(t *testing.T) {
	for _, x := range []struct {
		s    string
		want api.Errno
	}{
		{"", api.ErrSyntax}, {"s", api.ErrSyntax}, {"s 5 200000 1250", api.ErrSyntax}, {"s 5 200000 1250 8000 1", api.ErrSyntax}, {"s 5 200000 1250 8000 ", api.ErrSyntax}, {" s 5 200000 1250 8000", api.ErrSyntax}, {" 5 200000 1250 8000", api.ErrSyntax}, {"s  5 200000 1250 8000", api.ErrSyntax}, {"s 5 200000  1250", api.ErrSyntax}, {"s 5 200000 1250 ", api.ErrSyntax}, {"s\t5 200000 1250 8000", api.ErrSyntax}, {"s 5 200000 1250 8000\n", api.ErrSyntax},
		{"s x 200000 1250 8000", api.ErrSyntax}, {"s 05 200000 1250 8000", api.ErrSyntax}, {"s +5 200000 1250 8000", api.ErrSyntax}, {"s -5 200000 1250 8000", api.ErrSyntax}, {"s 5 2000000 1250 8000", api.ErrSyntax}, {"s 5 200000 01250 8000", api.ErrSyntax}, {"s 5 200000 1250 8.0", api.ErrSyntax}, {"s 5 200000 1250 mm", api.ErrSyntax},
		{"1 x 200000 1250 8000", api.ErrSyntax},
		{"1 5 200000 1250 8000", api.ErrName}, {"? 5 200000 1250 8000", api.ErrName}, {"abcdefghijklm 5 200000 1250 8000", api.ErrName}, {"1 0 0 0 0", api.ErrName},
		{"s 0 200000 1250 8000", api.ErrRange}, {"s 100 200000 1250 8000", api.ErrRange}, {"s 5 0 1250 8000", api.ErrRange}, {"s 5 999999 1250 8000", api.ErrRange}, {"s 5 200000 499 8000", api.ErrRange}, {"s 5 200000 1250 0", api.ErrRange}, {"s 5 200000 1250 20001", api.ErrRange},
	} {
		if s, e := campaign.ParseSlab(x.s); e != x.want || s != (api.CampaignSlab{}) {
			t.Errorf("%q: %v %v", x.s, s, e)
		}
	}
	if s, e := campaign.ParseSlab("s 5 200000 1250 8000"); e != api.OK || s != exampleSlab() {
		t.Error(s, e)
	}
}

func TestP1_2Suits(t *testing.T) {
	for _, x := range []struct {
		grade, width int
		want         bool
	}{{5, 1199, false}, {5, 1200, true}, {5, 1201, true}, {5, 1299, true}, {5, 1300, true}, {5, 1301, false}, {4, 1200, false}, {6, 1200, false}} {
		s := exampleSlab()
		s.Grade, s.Width = x.grade, x.width
		is, e := campaign.Suits(s, exampleOrder())
		if e != api.OK || is != x.want {
			t.Error(x, is, e)
		}
		length, e := campaign.CoilLength(s, exampleOrder())
		if x.want != (e == api.OK) || !x.want && (e != api.ErrClash || length != (api.Range{})) {
			t.Error(x, length, e)
		}
	}
}

func TestP1_2ErrorsOfSlabAndOrder(t *testing.T) {
	badName, badRange := exampleSlab(), exampleSlab()
	badName.Name, badRange.Length = "1", 0
	badOrder := exampleOrder()
	badOrder.Coiling = api.Range{Lo: 10, Hi: 0}
	clash := exampleSlab()
	clash.Grade = 6
	for _, x := range []struct {
		s    api.CampaignSlab
		o    api.CampaignOrder
		want api.Errno
	}{{badName, badOrder, api.ErrName}, {badRange, badOrder, api.ErrRange}, {exampleSlab(), badOrder, api.ErrOrder}, {clash, badOrder, api.ErrOrder}, {badRange, exampleOrder(), api.ErrRange}} {
		if is, e := campaign.Suits(x.s, x.o); e != x.want || is {
			t.Error(x, is, e)
		}
		if r, e := campaign.CoilLength(x.s, x.o); e != x.want || r != (api.Range{}) {
			t.Error(x, r, e)
		}
	}
}

func TestP1_2CoilLength(t *testing.T) {
	order := func(thickness, tolerance, width int) api.CampaignOrder {
		o := exampleOrder()
		o.Thickness, o.Tolerance, o.Width = thickness, tolerance, width
		return o
	}
	slab := func(thickness, width, length int) api.CampaignSlab {
		s := exampleSlab()
		s.Thickness, s.Width, s.Length = thickness, width, length
		return s
	}
	for _, x := range []struct {
		s    api.CampaignSlab
		o    api.CampaignOrder
		want api.Range
	}{
		{exampleSlab(), exampleOrder(), api.Range{Lo: 546448, Hi: 564972}},
		{slab(200000, 1200, 8000), order(4000, 0, 1200), api.Range{Lo: 400000, Hi: 400000}},
		{slab(200000, 1250, 8000), order(3000, 0, 1200), api.Range{Lo: 555555, Hi: 555556}},
		{slab(200000, 1200, 8000), order(3000, 2999, 1200), api.Range{Lo: 266711, Hi: 1600000000}},
		{slab(1, 500, 1), order(300000, 0, 500), api.Range{Lo: 0, Hi: 1}},
		{slab(1, 501, 1), order(1, 0, 500), api.Range{Lo: 1, Hi: 2}},
		{slab(1, 599, 5), order(1, 0, 500), api.Range{Lo: 5, Hi: 6}},
		{slab(300000, 2500, 20000), order(300000, 299999, 2500), api.Range{Lo: 10000, Hi: 6000000000}},
		{slab(300000, 2500, 20000), order(1, 0, 2400), api.Range{Lo: 6250000000, Hi: 6250000000}},
	} {
		if r, e := campaign.CoilLength(x.s, x.o); e != api.OK || r != x.want {
			t.Error(x, r, e)
		}
	}
}

func randomPair(rnd *rand.Rand) (api.CampaignSlab, api.CampaignOrder) {
	thickness := 1 + rnd.Intn(5000)
	o := api.CampaignOrder{Name: "o", Grade: 1 + rnd.Intn(99), Thickness: thickness, Tolerance: rnd.Intn(thickness), Width: 500 + rnd.Intn(1901)}
	s := api.CampaignSlab{Name: "s", Grade: o.Grade, Thickness: 1 + rnd.Intn(300000), Width: o.Width + rnd.Intn(101), Length: 1 + rnd.Intn(20000)}
	return s, o
}

func TestP1_7ConstantVolume(t *testing.T) {
	rnd := rand.New(rand.NewSource(7))
	for range 2000 {
		s, o := randomPair(rnd)
		r, e := campaign.CoilLength(s, o)
		if e != api.OK {
			t.Fatal(s, o, e)
		}
		volume := s.Thickness * s.Width * s.Length
		thick, thin := (o.Thickness+o.Tolerance)*o.Width, (o.Thickness-o.Tolerance)*o.Width
		if r.Lo*thick > volume || (r.Lo+1)*thick <= volume || r.Hi*thin < volume || (r.Hi-1)*thin >= volume {
			t.Fatal(s, o, r)
		}
		longer := s
		longer.Length = min(s.Length+rnd.Intn(100), 20000)
		if q, e := campaign.CoilLength(longer, o); e != api.OK || q.Lo < r.Lo || q.Hi < r.Hi {
			t.Fatal(longer, o, q, r, e)
		}
		o.Tolerance = 0
		area := o.Thickness * o.Width
		if q, e := campaign.CoilLength(s, o); e != api.OK || q.Lo*area > volume || q.Hi*area < volume || q.Hi-q.Lo > 1 || volume%area == 0 && q.Lo != q.Hi {
			t.Fatal(s, o, q, e)
		}
	}
}

func TestP1_14SlabsAreReadAsTheyAreWritten(t *testing.T) {
	rnd := rand.New(rand.NewSource(15))
	for range 2000 {
		s := api.CampaignSlab{Name: "n-" + strconv.Itoa(rnd.Intn(1000000)), Grade: 1 + rnd.Intn(99), Thickness: 1 + rnd.Intn(300000), Width: 500 + rnd.Intn(2001), Length: 1 + rnd.Intn(20000)}
		if p, e := campaign.ParseSlab(campaign.FormatSlab(s)); e != api.OK || p != s {
			t.Fatal(s, p, e)
		}
	}
	for _, s := range []api.CampaignSlab{{Name: "A", Grade: 1, Thickness: 1, Width: 500, Length: 1}, {Name: "abcdefghijkl", Grade: 99, Thickness: 300000, Width: 2500, Length: 20000}} {
		if p, e := campaign.ParseSlab(campaign.FormatSlab(s)); e != api.OK || p != s {
			t.Error(s, p, e)
		}
	}
}
