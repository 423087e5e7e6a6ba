package campaign_test

import (
	"math"
	"math/rand"
	"slices"
	"strconv"
	"strings"
	"testing"

	"cobble/api"
	"cobble/campaign"
)

func TestP1_1Names(t *testing.T) {
	for _, x := range []struct {
		name string
		want api.Errno
	}{
		{"", api.ErrName}, {"a", api.OK}, {"Z", api.OK}, {"abcdefghijkl", api.OK}, {"abcdefghijklm", api.ErrName},
		{"1a", api.ErrName}, {"-a", api.ErrName}, {"a1", api.OK}, {"a-", api.OK}, {"a b", api.ErrName},
		{"a_b", api.ErrName}, {"\u00e9", api.ErrName}, {"a\u00e9", api.ErrName}, {"a\xff", api.ErrName}, {"a\n", api.ErrName},
	} {
		o, s := exampleOrder(), exampleSlab()
		o.Name, s.Name = x.name, x.name
		if e := campaign.CheckOrder(o); e != x.want {
			t.Errorf("order %q: %v", x.name, e)
		}
		if e := campaign.CheckSlab(s); e != x.want {
			t.Errorf("slab %q: %v", x.name, e)
		}
		if _, e := campaign.CheckYard([][]string{{x.name}}); e != x.want {
			t.Errorf("yard %q: %v", x.name, e)
		}
	}
	for c := range 256 {
		b := byte(c)
		letter := 'a' <= b && b <= 'z' || 'A' <= b && b <= 'Z'
		digit := '0' <= b && b <= '9'
		o := exampleOrder()
		o.Name = string([]byte{b})
		if e := campaign.CheckOrder(o); (e == api.OK) != letter {
			t.Errorf("%q: %v", o.Name, e)
		}
		o.Name = string([]byte{'x', b})
		if e := campaign.CheckOrder(o); (e == api.OK) != (letter || digit || b == '-') {
			t.Errorf("%q: %v", o.Name, e)
		}
	}
}

// TestP1_1CheckOrderLimits sets one field of a valid order at a time.
func TestP1_1CheckOrderLimits(t *testing.T) {
	type set = func(o *api.CampaignOrder, n int)
	grade := func(o *api.CampaignOrder, n int) { o.Grade = n }
	thickness := func(o *api.CampaignOrder, n int) { o.Thickness = n }
	tolerance := func(o *api.CampaignOrder, n int) { o.Tolerance = n }
	width := func(o *api.CampaignOrder, n int) { o.Width = n }
	low := func(o *api.CampaignOrder, n int) { o.Coiling.Lo = n }
	high := func(o *api.CampaignOrder, n int) { o.Coiling.Hi = n }
	due := func(o *api.CampaignOrder, n int) { o.Due = n }
	for i, x := range []struct {
		set  set
		n    int
		want api.Errno
	}{
		{grade, 0, api.ErrRange}, {grade, 1, api.OK}, {grade, 99, api.OK}, {grade, 100, api.ErrRange},
		{thickness, 0, api.ErrRange}, {thickness, 50, api.ErrRange}, {thickness, 51, api.OK}, {thickness, 300000, api.OK}, {thickness, 300001, api.ErrRange},
		{tolerance, -1, api.ErrRange}, {tolerance, 0, api.OK}, {tolerance, 2999, api.OK}, {tolerance, 3000, api.ErrRange},
		{width, 499, api.ErrRange}, {width, 500, api.OK}, {width, 2500, api.OK}, {width, 2501, api.ErrRange},
		{low, -1, api.ErrRange}, {low, -10, api.ErrRange}, {low, 0, api.OK}, {low, 10, api.OK}, {low, 15, api.ErrForm}, {low, 20000, api.OK}, {low, 20001, api.ErrRange}, {low, 20010, api.ErrRange},
		{high, -1, api.ErrRange}, {high, 0, api.OK}, {high, 1, api.ErrForm}, {high, 19999, api.ErrForm}, {high, 19990, api.OK}, {high, 20001, api.ErrRange}, {high, 20010, api.ErrRange},
		{due, -1, api.ErrRange}, {due, 0, api.OK}, {due, 100000, api.OK}, {due, 100001, api.ErrRange},
		{grade, math.MinInt, api.ErrRange}, {thickness, math.MinInt, api.ErrRange}, {tolerance, math.MaxInt, api.ErrRange}, {width, math.MaxInt, api.ErrRange}, {high, math.MaxInt, api.ErrRange}, {due, math.MinInt, api.ErrRange},
	} {
		o := exampleOrder()
		x.set(&o, x.n)
		if e := campaign.CheckOrder(o); e != x.want {
			t.Error(i, o, e)
		}
	}
	thin := exampleOrder()
	thin.Thickness, thin.Tolerance = 1, 0
	if e := campaign.CheckOrder(thin); e != api.OK {
		t.Error(thin, e)
	}
	if e := campaign.CheckOrder(api.CampaignOrder{Name: "a", Grade: 1, Thickness: 1, Width: 500}); e != api.OK {
		t.Error("the least order", e)
	}
}

// TestP1_1CheckOrderErrorsInTheirOrder mends one fault after the other.
func TestP1_1CheckOrderErrorsInTheirOrder(t *testing.T) {
	o := api.CampaignOrder{Name: "1", Grade: 0, Thickness: 3000, Width: 1200, Coiling: api.Range{Lo: 105, Hi: 95}, Due: -1}
	want := func(e api.Errno) {
		t.Helper()
		if f := campaign.CheckOrder(o); f != e {
			t.Errorf("%v: %v in place of %v", o, f, e)
		}
	}
	want(api.ErrName)
	o.Name = "a"
	want(api.ErrRange)
	o.Grade = 5
	want(api.ErrOrder)
	o.Coiling.Hi = 115
	want(api.ErrForm)
	o.Coiling.Lo = 100
	want(api.ErrForm)
	o.Coiling.Hi = 110
	want(api.ErrRange)
	o.Due = 0
	want(api.OK)
	o.Coiling = api.Range{Lo: 20010, Hi: 20000}
	want(api.ErrRange)
	o.Coiling = api.Range{Lo: 10, Hi: -10}
	want(api.ErrRange)
	o.Coiling = api.Range{Lo: 110, Hi: 100}
	want(api.ErrOrder)
	o.Coiling = api.Range{Lo: 100, Hi: 100}
	want(api.OK)
}

func TestP1_1FormatOrder(t *testing.T) {
	for _, x := range []struct {
		o    api.CampaignOrder
		want string
	}{
		{exampleOrder(), "a-1 grade 5 thickness 3000 um tolerance 50 um width 1200 mm coiling 0 to 2000 C due 12"},
		{api.CampaignOrder{}, " grade 0 thickness 0 um tolerance 0 um width 0 mm coiling 0 to 0 C due 0"},
		{api.CampaignOrder{Name: "no name", Grade: -1, Thickness: -2, Tolerance: -3, Width: -4, Coiling: api.Range{Lo: -15, Hi: 19}, Due: -5}, "no name grade -1 thickness -2 um tolerance -3 um width -4 mm coiling -2 to 1 C due -5"},
		{api.CampaignOrder{Name: "b", Coiling: api.Range{Lo: -20, Hi: -1}}, "b grade 0 thickness 0 um tolerance 0 um width 0 mm coiling -2 to -1 C due 0"},
		{api.CampaignOrder{Name: "b", Grade: math.MaxInt, Coiling: api.Range{Lo: math.MinInt, Hi: math.MaxInt}}, "b grade 9223372036854775807 thickness 0 um tolerance 0 um width 0 mm coiling -922337203685477581 to 922337203685477580 C due 0"},
	} {
		if s := campaign.FormatOrder(x.o); s != x.want {
			t.Errorf("%q in place of %q", s, x.want)
		}
	}
}

func TestP1_1ParseOrderAccepts(t *testing.T) {
	least := api.CampaignOrder{Name: "x", Grade: 7, Thickness: 2000, Width: 900, Coiling: api.Range{Lo: 0, Hi: 20000}}
	with := func(change func(o *api.CampaignOrder)) api.CampaignOrder {
		o := least
		change(&o)
		return o
	}
	for _, x := range []struct {
		s    string
		want api.CampaignOrder
	}{
		{"a-1 width 1200 mm thickness 3 mm grade 5 tolerance 50 um due 12", exampleOrder()},
		{"x grade 7 thickness 2 mm width 900 mm", least},
		{"x grade 7 thickness 2000 um width 900 mm", least},
		{"x width 900 mm grade 7 tolerance 1 mm thickness 2 mm", with(func(o *api.CampaignOrder) { o.Tolerance = 1000 })},
		{"x width 900 mm grade 7 tolerance 0 mm thickness 2 mm", least},
		{"x width 900 mm grade 7 tolerance 1999 um thickness 2 mm", with(func(o *api.CampaignOrder) { o.Tolerance = 1999 })},
		{"x grade 7 thickness 2 mm width 900 mm coiling 500 to 600 C", with(func(o *api.CampaignOrder) { o.Coiling = api.Range{Lo: 5000, Hi: 6000} })},
		{"x grade 7 thickness 2 mm width 900 mm coiling 0 to 0 C", with(func(o *api.CampaignOrder) { o.Coiling = api.Range{} })},
		{"x coiling 2000 to 2000 C grade 7 thickness 2 mm width 900 mm", with(func(o *api.CampaignOrder) { o.Coiling = api.Range{Lo: 20000, Hi: 20000} })},
		{"x grade 7 thickness 2 mm width 900 mm due 100000", with(func(o *api.CampaignOrder) { o.Due = 100000 })},
		{"x grade 7 thickness 300 mm width 900 mm", with(func(o *api.CampaignOrder) { o.Thickness = 300000 })},
		{"x grade 7 thickness 300000 um width 900 mm", with(func(o *api.CampaignOrder) { o.Thickness = 300000 })},
		{"grade grade 7 thickness 2 mm width 900 mm", with(func(o *api.CampaignOrder) { o.Name = "grade" })},
	} {
		if o, i, e := campaign.ParseOrder(x.s); e != api.OK || i != 0 || o != x.want {
			t.Error(x.s, o, i, e)
		}
	}
}

func TestP1_1ParseOrderTakesClausesInAnyOrder(t *testing.T) {
	clauses := []string{"grade 5", "thickness 3 mm", "tolerance 50 um", "width 1200 mm", "coiling 400 to 650 C", "due 12"}
	want := exampleOrder()
	want.Coiling = api.Range{Lo: 4000, Hi: 6500}
	for _, p := range permutationsOf(firstNumbers(len(clauses))) {
		s := "a-1"
		for _, i := range p {
			s += " " + clauses[i]
		}
		if o, i, e := campaign.ParseOrder(s); e != api.OK || i != 0 || o != want {
			t.Fatal(s, o, i, e)
		}
	}
}

func TestP1_1ParseOrderRefuses(t *testing.T) {
	const rest = " thickness 2 mm width 900 mm"
	for _, x := range []struct {
		s    string
		at   int
		want api.Errno
	}{
		{"", 0, api.ErrSyntax}, {" ", 0, api.ErrSyntax}, {"1", 0, api.ErrSyntax}, {"abcdefghijklm grade 5" + rest, 0, api.ErrSyntax}, {" x grade 5" + rest, 0, api.ErrSyntax},
		{"x", 0, api.ErrGap}, {"x ", 1, api.ErrSyntax}, {"x  grade 5" + rest, 1, api.ErrSyntax}, {"x grade  5" + rest, 2, api.ErrSyntax}, {"x grade 5" + rest + " ", 9, api.ErrSyntax}, {"x\tgrade 5" + rest, 0, api.ErrSyntax}, {"x grade 5" + rest + "\n", 8, api.ErrSyntax},
		{"x colour 5", 1, api.ErrSyntax}, {"x Grade 5" + rest, 1, api.ErrSyntax}, {"x grades 5" + rest, 1, api.ErrSyntax}, {"x grade 5 6" + rest, 3, api.ErrSyntax}, {"x grade 5 colour 6" + rest, 3, api.ErrSyntax},
		{"x grade", 2, api.ErrSyntax}, {"x thickness 2", 3, api.ErrSyntax}, {"x tolerance 2", 3, api.ErrSyntax}, {"x width 900", 3, api.ErrSyntax}, {"x coiling", 2, api.ErrSyntax}, {"x coiling 5", 3, api.ErrSyntax}, {"x coiling 5 to", 4, api.ErrSyntax}, {"x coiling 5 to 6", 5, api.ErrSyntax}, {"x due", 2, api.ErrSyntax},
		{"x thickness 2 cm", 3, api.ErrSyntax}, {"x thickness 2 MM", 3, api.ErrSyntax}, {"x tolerance 2 C", 3, api.ErrSyntax}, {"x width 900 um", 3, api.ErrSyntax}, {"x width 900 grade 5", 3, api.ErrSyntax}, {"x coiling 600 and", 3, api.ErrSyntax}, {"x coiling 5 to 6 K", 5, api.ErrSyntax}, {"x coiling 5 to 6 c", 5, api.ErrSyntax}, {"x coiling to 6 C", 2, api.ErrSyntax}, {"x coiling 5 to C", 4, api.ErrSyntax},
		{"x grade 5 grade 6", 3, api.ErrDouble}, {"x grade 5 grade", 3, api.ErrDouble}, {"x grade 5 grade ?", 3, api.ErrDouble}, {"x grade 5" + rest + " thickness 2 mm", 9, api.ErrDouble}, {"x due 1 due 1", 3, api.ErrDouble}, {"x tolerance 1 um tolerance 1 um", 4, api.ErrDouble}, {"x width 900 mm width 900 mm", 4, api.ErrDouble}, {"x coiling 1 to 2 C coiling 1 to 2 C", 6, api.ErrDouble}, {"x grade 5 ? grade 6", 3, api.ErrSyntax}, {"x grade 5 grade 6 ?", 3, api.ErrDouble}, {"x grade 0 grade 5", 3, api.ErrDouble},
		{"x thickness 2 mm width 900 mm", 0, api.ErrGap}, {"x grade 5 width 900 mm", 0, api.ErrGap}, {"x grade 5 thickness 2 mm", 0, api.ErrGap}, {"x tolerance 5 um coiling 1 to 2 C due 5", 0, api.ErrGap}, {"x grade 0", 0, api.ErrGap}, {"x grade 5 due 999999", 0, api.ErrGap}, {"x grade 0 due", 4, api.ErrSyntax},
		{"x grade 0" + rest, 0, api.ErrRange}, {"x grade 100" + rest, 0, api.ErrRange}, {"x grade 5 thickness 301 mm width 900 mm", 0, api.ErrRange}, {"x grade 5 thickness 999999 mm width 900 mm", 0, api.ErrRange}, {"x grade 5 thickness 0 mm width 900 mm", 0, api.ErrRange}, {"x grade 5 thickness 1 um width 499 mm", 0, api.ErrRange}, {"x grade 5 tolerance 2 mm" + rest, 0, api.ErrRange}, {"x grade 5 coiling 1 to 2001 C" + rest, 0, api.ErrRange}, {"x grade 5 due 100001" + rest, 0, api.ErrRange},
		{"x grade 5 coiling 600 to 500 C" + rest, 0, api.ErrOrder}, {"x grade 5 coiling 600 to 500 C due 100001" + rest, 0, api.ErrOrder},
	} {
		if o, i, e := campaign.ParseOrder(x.s); e != x.want || i != x.at || o != (api.CampaignOrder{}) {
			t.Errorf("%q: %v %v %v in place of %v %v", x.s, o, i, e, x.at, x.want)
		}
	}
}

func TestP1_1ParseOrderRefusesNumbers(t *testing.T) {
	for _, n := range []string{"", "+5", "-5", "-0", "05", "00", "5.0", "5e1", "0x5", "1_0", "1000000", "0000005", "five", "\u0665", "5\x00", "99999999999999999999999999"} {
		for _, x := range []struct {
			s  string
			at int
		}{{"x grade N thickness 2 mm width 900 mm", 2}, {"x grade 5 thickness N mm width 900 mm", 4}, {"x thickness N um", 2}, {"x tolerance N um", 2}, {"x width N mm", 2}, {"x coiling N to 5 C", 2}, {"x coiling 5 to N C", 4}, {"x due N", 2}} {
			s := strings.Replace(x.s, "N", n, 1)
			if o, i, e := campaign.ParseOrder(s); e != api.ErrSyntax || i != x.at || o != (api.CampaignOrder{}) {
				t.Errorf("%q: %v %v %v", s, o, i, e)
			}
		}
	}
}

// TestP1_1ParseOrderWordByWord breaks a valid string at each of its words.
func TestP1_1ParseOrderWordByWord(t *testing.T) {
	words := strings.Split("a-1 due 12 coiling 400 to 650 C tolerance 50 um grade 5 thickness 3 mm width 1200 mm", " ")
	ends := map[int]bool{1: true, 3: true, 8: true, 11: true, 13: true, 16: true, 19: true}
	for i := range words {
		for _, wrong := range []string{"?", "", "1-"} {
			changed := slices.Clone(words)
			changed[i] = wrong
			if _, at, e := campaign.ParseOrder(strings.Join(changed, " ")); e != api.ErrSyntax || at != i {
				t.Error(i, wrong, at, e)
			}
		}
		inserted := slices.Insert(slices.Clone(words), i, "?")
		if _, at, e := campaign.ParseOrder(strings.Join(inserted, " ")); e != api.ErrSyntax || at != i {
			t.Error("inserted", i, at, e)
		}
	}
	for n := 1; n <= len(words); n++ {
		_, at, e := campaign.ParseOrder(strings.Join(words[:n], " "))
		switch {
		case n == len(words):
			if at != 0 || e != api.OK {
				t.Error(n, at, e)
			}
		case ends[n]:
			if at != 0 || e != api.ErrGap {
				t.Error(n, at, e)
			}
		default:
			if at != n || e != api.ErrSyntax {
				t.Error(n, at, e)
			}
		}
	}
}

func TestP1_14OrdersAreReadAsTheyAreWritten(t *testing.T) {
	rnd := rand.New(rand.NewSource(14))
	for range 2000 {
		thickness := 1 + rnd.Intn(300000)
		low := rnd.Intn(2001)
		o := api.CampaignOrder{Name: "n" + strconv.Itoa(rnd.Intn(1000000)), Grade: 1 + rnd.Intn(99), Thickness: thickness, Tolerance: rnd.Intn(thickness), Width: 500 + rnd.Intn(2001), Coiling: api.Range{Lo: 10 * low, Hi: 10 * (low + rnd.Intn(2001-low))}, Due: rnd.Intn(100001)}
		if e := campaign.CheckOrder(o); e != api.OK {
			t.Fatal(o, e)
		}
		s := campaign.FormatOrder(o)
		p, i, e := campaign.ParseOrder(s)
		if e != api.OK || i != 0 || p != o || campaign.FormatOrder(p) != s {
			t.Fatal(s, p, i, e)
		}
	}
	for _, o := range []api.CampaignOrder{
		{Name: "A", Grade: 1, Thickness: 1, Width: 500},
		{Name: "abcdefghijkl", Grade: 99, Thickness: 300000, Tolerance: 299999, Width: 2500, Coiling: api.Range{Lo: 20000, Hi: 20000}, Due: 100000},
	} {
		if p, _, e := campaign.ParseOrder(campaign.FormatOrder(o)); e != api.OK || p != o {
			t.Error(o, p, e)
		}
	}
}
