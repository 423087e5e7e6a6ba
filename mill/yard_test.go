package mill_test

import (
	"fmt"
	"testing"

	"cobble/api"
	"cobble/mill"
)

func TestP10_2Orders(t *testing.T) {
	p := examplePlant()
	l := logOf(t, p, nil, "ola "+orderText, "mia order o-2 due 7 width 900 mm thickness 3 mm grade 99 coiling 500 to 600 C tolerance 50 um")
	s := stateOf(t, p, l)
	wantSame(t, "orders", s.Orders, api.OK, []api.MillOrder{
		{Order: api.CampaignOrder{Name: "o1", Grade: 1, Thickness: 3000, Width: 1200, Coiling: api.Range{Hi: 20000}}},
		{Order: api.CampaignOrder{Name: "o-2", Grade: 99, Thickness: 3000, Tolerance: 50, Width: 900, Coiling: api.Range{Lo: 5000, Hi: 6000}, Due: 7}},
	}, api.OK)
	for want, text := range map[api.Errno]string{
		api.ErrSyntax: "order o1 grade", api.ErrDouble: "order o1 grade 1 grade 1", api.ErrGap: "order o1 grade 1", api.ErrRange: orderText + " tolerance 3 mm", api.ErrOrder: orderText + " coiling 3 to 2 C",
		api.ErrExists: "order o1 grade 2 thickness 2 mm width 500 mm",
	} {
		wantRefused(t, p, l, want, "ola "+text)
	}
	for _, name := range []string{"o3", "o4", "o5", "s1"} {
		l = logOf(t, p, l, "ola order "+name+" grade 1 thickness 3 mm width 1200 mm")
	}
	wantRefused(t, p, l, api.ErrFull, "ola order o6 grade 1 thickness 3 mm width 1200 mm")
	wantRefused(t, p, l, api.ErrExists, "ola order s1 grade 1 thickness 3 mm width 1200 mm")
	wantRefused(t, p, l, api.ErrRange, "ola order o6 grade 100 thickness 3 mm width 1200 mm")
}

func TestP10_2Slabs(t *testing.T) {
	p := examplePlant()
	l := logOf(t, p, nil, "ola "+slabText, "mia slab o1 99 1 500 20000")
	s := stateOf(t, p, l)
	wantSame(t, "slabs", s.Slabs, api.OK, []api.MillSlab{
		{Slab: api.CampaignSlab{Name: "s1", Grade: 1, Thickness: 200000, Width: 1250, Length: 1000}},
		{Slab: api.CampaignSlab{Name: "o1", Grade: 99, Thickness: 1, Width: 500, Length: 20000}},
	}, api.OK)
	for want, text := range map[api.Errno]string{
		api.ErrSyntax: "slab s1 1 200000 1250", api.ErrName: "slab 1 1 200000 1250 1000", api.ErrRange: "slab s1 1 200000 1250 0", api.ErrExists: "slab s1 2 200000 1250 1000",
	} {
		wantRefused(t, p, l, want, "ola "+text)
	}
	for i := range 8 {
		l = logOf(t, p, l, fmt.Sprintf("ola slab x%d 1 200000 1250 1000", i))
	}
	wantRefused(t, p, l, api.ErrFull, "ola slab s2 1 200000 1250 1000")
	wantRefused(t, p, l, api.ErrExists, "ola slab x7 1 200000 1250 1000")
	wantRefused(t, p, l, api.ErrRange, "ola slab x8 0 200000 1250 1000")
}

func TestP10_2Assignments(t *testing.T) {
	p := examplePlant()
	l := logOf(t, p, nil, "ola "+orderText, "ola "+slabText)
	wantRefused(t, p, l, api.ErrMissing, "ola assign s2 o1", "ola assign s1 o2", "ola assign o1 s1")
	for slab, want := range map[string]api.Errno{"a 1 200000 1200 1": api.OK, "b 1 200000 1300 1": api.OK, "c 1 200000 1199 1": api.ErrRefused, "d 1 200000 1301 1": api.ErrRefused, "e 2 200000 1200 1": api.ErrRefused} {
		added := logOf(t, p, l, "ola slab "+slab)
		_, e := mill.Appended(p, added, said(len(added), "ola assign "+slab[:1]+" o1"))
		wantSame(t, slab, 0, e, 0, want)
	}
	l = logOf(t, p, l, "ola assign s1 o1", "ola order o2 grade 1 thickness 3 mm width 1250 mm", "ola order o3 grade 2 thickness 3 mm width 1250 mm")
	wantSame(t, "Order", stateOf(t, p, l).Slabs[0].Order, api.OK, "o1", api.OK)
	wantRefused(t, p, l, api.ErrRefused, "ola assign s1 o3")
	l = logOf(t, p, l, "ola assign s1 o2")
	wantSame(t, "Order", stateOf(t, p, l).Slabs[0].Order, api.OK, "o2", api.OK)
	l = logOf(t, p, l, "ola assign s1 o2", "tom charge s1")
	wantRefused(t, p, l, api.ErrState, "ola assign s1 o1", "ola assign s1 o3")
	wantRefused(t, p, l, api.ErrMissing, "ola assign s1 o4")
}

func TestP10_2Schedules(t *testing.T) {
	p := examplePlant()
	l := logOf(t, p, nil, "ola "+orderText)
	wantSame(t, "Planned", stateOf(t, p, l).Orders[0].Planned, api.OK, false, api.OK)
	wantRefused(t, p, l, api.ErrMissing, "ola schedule o2 1", "ola schedule s1 a 80 60")
	for text, want := range map[string]api.Errno{
		"a 80 x": api.ErrSyntax, "1 80 60": api.ErrName, "a 80 75 70 65 60 60 60": api.ErrLarge, "a 80 1001": api.ErrRange, "a 80": api.ErrShape, "a 80 70 60": api.ErrShape, "a 80 81": api.ErrOrder, "a 101 60": api.ErrOrder,
		"a 80 61": api.ErrGap, "a 70 60": api.ErrRefused, "a 90 60": api.ErrRefused, "a 100 60": api.ErrRefused, "a 60 60": api.ErrRefused, "a 79 60": api.OK, "a 81 60": api.OK,
	} {
		_, e := mill.Appended(p, l, said(len(l), "ola schedule o1 "+text))
		wantSame(t, text, 0, e, 0, want)
	}
	l = logOf(t, p, l, "ola "+scheduleText)
	order := stateOf(t, p, l).Orders[0]
	wantSame(t, "Schedule", order.Schedule, api.OK, api.PassSchedule{Name: "a", Thicknesses: []int{80, 60}}, api.OK)
	l = logOf(t, p, l, "ola schedule o1 b-1 81 60")
	order = stateOf(t, p, l).Orders[0]
	wantSame(t, "Schedule", order.Schedule, api.OK, api.PassSchedule{Name: "b-1", Thicknesses: []int{81, 60}}, api.OK)
	wantSame(t, "Planned", order.Planned, api.OK, true, api.OK)
}

// TestP10_2MaybeIsRefused has a schedule that some materials keep, but not all.
func TestP10_2MaybeIsRefused(t *testing.T) {
	p := examplePlant()
	p.Passes = "10 100 60 10000 10000 9000 2 3 7 8 ; 300 14000 400000 0 100 ; 300 20000 400000 0 100"
	l := logOf(t, p, nil, "ola "+orderText)
	wantRefused(t, p, l, api.ErrRefused, "ola "+scheduleText)
	p.Passes = "10 100 60 10000 10000 9000 2 3 7 8 ; 300 15000 400000 0 100 ; 300 20000 400000 0 100"
	logOf(t, p, l, "ola "+scheduleText)
}

// TestP10_2AnyTime schedules an order again while its strip is in the line, and after it
// is coiled.
func TestP10_2AnyTime(t *testing.T) {
	p := examplePlant()
	for _, l := range [][]api.MillEntry{chargedLog(t, p), threadedLog(t, p, 1), logOf(t, p, threadedLog(t, p, 1), "tom cobble f1"), coiledLog(t, p)} {
		l = logOf(t, p, l, "ola schedule o1 c 79 60")
		wantSame(t, "Schedule", stateOf(t, p, l).Orders[0].Schedule.Name, api.OK, "c", api.OK)
	}
}

func TestP10_2Charges(t *testing.T) {
	p := examplePlant()
	l := logOf(t, p, nil, "ola "+orderText, "ola "+slabText)
	wantRefused(t, p, l, api.ErrMissing, "tom charge s2", "tom charge o1")
	wantRefused(t, p, l, api.ErrGap, "tom charge s1")
	l = logOf(t, p, l, "ola assign s1 o1", "tom charge s1")
	wantSame(t, "Place", stateOf(t, p, l).Slabs[0].Place, api.OK, api.MillFurnace, api.OK)
	wantRefused(t, p, l, api.ErrState, "tom charge s1")
	for _, slab := range []string{"s2", "s3", "s4"} {
		l = logOf(t, p, l, "ola slab "+slab+" 1 200000 1250 1000")
		if slab != "s4" {
			l = logOf(t, p, l, "ola assign "+slab+" o1", "tom charge "+slab)
		}
	}
	wantRefused(t, p, l, api.ErrGap, "tom charge s4")
	l = logOf(t, p, l, "ola assign s4 o1")
	wantRefused(t, p, l, api.ErrFull, "tom charge s4")
	wantRefused(t, p, l, api.ErrState, "tom charge s3")
	logOf(t, p, l, "ola "+scheduleText, "tom start f1", "tom start f2", "tom draw s2", "tom charge s4")
	for _, l := range [][]api.MillEntry{threadedLog(t, p, 0), coiledLog(t, p)} {
		wantRefused(t, p, l, api.ErrState, "tom charge s1")
	}
}

func TestP10_3SlabsFor(t *testing.T) {
	p := examplePlant()
	l := logOf(t, p, nil, "ola "+orderText, "ola order o2 grade 1 thickness 3 mm width 1200 mm")
	for _, slab := range []string{"s3", "s1", "s4", "s2"} {
		l = logOf(t, p, l, "ola slab "+slab+" 1 200000 1250 1000")
	}
	l = logOf(t, p, l, "ola assign s2 o1", "ola assign s3 o1", "ola assign s1 o2", "ola assign s4 o1", "ola assign s4 o2", "tom charge s3")
	for order, want := range map[string][]string{"o1": {"s3", "s2"}, "o2": {"s1", "s4"}} {
		names, e := mill.SlabsFor(p, l, order)
		wantSame(t, "SlabsFor "+order, names, e, want, api.OK)
	}
	for order, want := range map[string]api.Errno{"": api.ErrName, "1": api.ErrName, "o1 ": api.ErrName, "o3": api.ErrMissing, "s1": api.ErrMissing, "O1": api.ErrMissing} {
		names, e := mill.SlabsFor(p, l, order)
		wantSame(t, "SlabsFor "+order, names, e, nil, want)
	}
	names, e := mill.SlabsFor(p, l[:2], "o1")
	wantSame(t, "SlabsFor without slabs", names, e, nil, api.OK)
	for _, l := range [][]api.MillEntry{coiledLog(t, p), logOf(t, p, threadedLog(t, p, 1), "tom cobble f1", "tom stop f1", "tom clear")} {
		names, e = mill.SlabsFor(p, l, "o1")
		wantSame(t, "SlabsFor", names, e, []string{"s1"}, api.OK)
	}
	names, e = mill.SlabsFor(p, []api.MillEntry{entry(0, "tom", "slab")}, "1")
	wantSame(t, "SlabsFor a wrong log", names, e, nil, api.ErrSyntax)
}
