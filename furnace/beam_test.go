package furnace_test

import (
	"math"
	"math/rand"
	"slices"
	"testing"

	"cobble/api"
	"cobble/furnace"
)

func beam(beat int, positions ...int) api.FurnaceBeam {
	return api.FurnaceBeam{Positions: positions, Beat: beat}
}

func TestP2_6CheckBeam(t *testing.T) {
	for _, c := range []struct {
		beam api.FurnaceBeam
		at   int
		want api.Errno
	}{
		{exampleBeam(), 0, api.OK},
		{beam(1), 0, api.ErrShape},
		{beam(0), 0, api.ErrShape},
		{beam(1, 1, 1, 1, 1, 1), 0, api.OK},
		{beam(0, 0, 1, 1, 1, 1, 1), 0, api.ErrLarge},
		{beam(1, 1, 1, 1, 1, 1, 1), 0, api.ErrLarge},
		{beam(0, 1), 0, api.ErrRange},
		{beam(-1, 1), 0, api.ErrRange},
		{beam(1001, 1), 0, api.ErrRange},
		{beam(1000, 1), 0, api.OK},
		{beam(0, 1, 201), 0, api.ErrRange},
		{beam(1, 0), 0, api.ErrRange},
		{beam(1, 200), 0, api.OK},
		{beam(1, 201), 0, api.ErrRange},
		{beam(1, 1, 201), 1, api.ErrRange},
		{beam(1, 1, 1, 0, 201), 2, api.ErrRange},
		{beam(1, 1, 1, 1, 1, -1), 4, api.ErrRange},
	} {
		if at, e := furnace.CheckBeam(c.beam); at != c.at || e != c.want {
			t.Errorf("%v: %d %v in place of %d %v", c.beam, at, e, c.at, c.want)
		}
	}
}

func TestP2_6RouteOf(t *testing.T) {
	for _, c := range []struct {
		beam api.FurnaceBeam
		sets []int
		l    []api.FurnaceZone
		want api.Errno
	}{
		{exampleBeam(), []int{1000, 1200}, route(1000, 8, 1200, 12), api.OK},
		{exampleBeam(), []int{0, 20000}, route(0, 8, 20000, 12), api.OK},
		{exampleBeam(), []int{1000}, nil, api.ErrShape},
		{exampleBeam(), []int{-1, 1, 2}, nil, api.ErrShape},
		{exampleBeam(), nil, nil, api.ErrShape},
		{exampleBeam(), []int{-1, 1200}, nil, api.ErrRange},
		{exampleBeam(), []int{1000, 20001}, nil, api.ErrRange},
		{beam(1, 200), []int{5}, route(5, 200), api.OK},
		{beam(200, 1), []int{5}, route(5, 200), api.OK},
		{beam(40, 5), []int{5}, route(5, 200), api.OK},
		{beam(201, 1), []int{5}, nil, api.ErrLarge},
		{beam(3, 67), []int{5}, nil, api.ErrLarge},
		{beam(3, 66, 67), []int{5, 6}, nil, api.ErrLarge},
		{beam(3, 67, 66), []int{5, 20001}, nil, api.ErrRange},
		{beam(0, 1), nil, nil, api.ErrRange},
		{beam(1), []int{1}, nil, api.ErrShape},
		{beam(1, 1, 1, 1, 1, 1, 1), []int{1}, nil, api.ErrLarge},
	} {
		if l, e := furnace.RouteOf(c.beam, c.sets); !slices.Equal(l, c.l) || e != c.want {
			t.Errorf("%v %v: %v %v in place of %v %v", c.beam, c.sets, l, e, c.l, c.want)
		}
	}
}

func TestP2_6ZoneAt(t *testing.T) {
	for _, c := range []struct {
		beam         api.FurnaceBeam
		charge, tick int
		zone         int
		want         api.Errno
	}{
		{exampleBeam(), 10, 10, 0, api.OK},
		{exampleBeam(), 10, 17, 0, api.OK},
		{exampleBeam(), 10, 18, 1, api.OK},
		{exampleBeam(), 10, 29, 1, api.OK},
		{exampleBeam(), 10, 30, 0, api.ErrNone},
		{exampleBeam(), 10, 9, 0, api.ErrOrder},
		{exampleBeam(), 0, 0, 0, api.OK},
		{exampleBeam(), 0, api.MaxTick, 0, api.ErrNone},
		{exampleBeam(), api.MaxTick, api.MaxTick, 0, api.OK},
		{exampleBeam(), api.MaxTick - 19, api.MaxTick, 1, api.OK},
		{exampleBeam(), api.MaxTick, 0, 0, api.ErrOrder},
		{exampleBeam(), -1, 5, 0, api.ErrRange},
		{exampleBeam(), 5, -1, 0, api.ErrRange},
		{exampleBeam(), api.MaxTick + 1, 5, 0, api.ErrRange},
		{exampleBeam(), 5, api.MaxTick + 1, 0, api.ErrRange},
		{exampleBeam(), math.MaxInt, math.MinInt, 0, api.ErrRange},
		{beam(1, 1), 5, 5, 0, api.OK},
		{beam(1, 1), 5, 6, 0, api.ErrNone},
		{beam(1, 1, 1, 1, 1, 1), 5, 9, 4, api.OK},
		{beam(1000, 200, 200, 200, 200, 200), 0, 999999, 4, api.OK},
		{beam(1000, 200, 200, 200, 200, 200), 0, 1000000, 0, api.ErrNone},
		{beam(0, 1), -1, 5, 0, api.ErrRange},
		{beam(1), -1, 5, 0, api.ErrShape},
		{beam(1, 1, 1, 1, 1, 1, 1), -1, 5, 0, api.ErrLarge},
		{beam(1, 1, 0), 7, 5, 0, api.ErrRange},
	} {
		if zone, e := furnace.ZoneAt(c.beam, c.charge, c.tick); zone != c.zone || e != c.want {
			t.Errorf("%v: %d at %d: %d %v in place of %d %v", c.beam, c.charge, c.tick, zone, e, c.zone, c.want)
		}
	}
}

// TestP2_6ZonesTickByTick moves a slab by one position each beat.
func TestP2_6ZonesTickByTick(t *testing.T) {
	rnd := rand.New(rand.NewSource(13))
	for range 300 {
		b := beam(1 + rnd.Intn(6))
		for range 1 + rnd.Intn(5) {
			b.Positions = append(b.Positions, 1+rnd.Intn(4))
		}
		tick := rnd.Intn(50)
		charge := tick
		for zone, n := range b.Positions {
			for range n * b.Beat {
				if z, e := furnace.ZoneAt(b, charge, tick); z != zone || e != api.OK {
					t.Fatal(b, charge, tick, z, e)
				}
				tick++
			}
		}
		if z, e := furnace.ZoneAt(b, charge, tick); z != 0 || e != api.ErrNone {
			t.Fatal(b, charge, tick, z, e)
		}
	}
}

func TestP2_6LatestCharge(t *testing.T) {
	for _, c := range []struct {
		beam             api.FurnaceBeam
		delivery, charge int
		want             api.Errno
	}{
		{exampleBeam(), 100, 80, api.OK},
		{exampleBeam(), 20, 0, api.OK},
		{exampleBeam(), 19, 0, api.ErrNone},
		{exampleBeam(), 0, 0, api.ErrNone},
		{exampleBeam(), api.MaxTick, api.MaxTick - 20, api.OK},
		{exampleBeam(), api.MaxTick + 1, 0, api.ErrRange},
		{exampleBeam(), -1, 0, api.ErrRange},
		{beam(1000, 200, 200, 200, 200, 200), 1000001, 1, api.OK},
		{beam(0, 1), -1, 0, api.ErrRange},
		{beam(1), -1, 0, api.ErrShape},
		{beam(1, 1, 1, 1, 1, 1, 1), -1, 0, api.ErrLarge},
	} {
		if n, e := furnace.LatestCharge(c.beam, c.delivery); n != c.charge || e != c.want {
			t.Errorf("%v %d: %d %v in place of %d %v", c.beam, c.delivery, n, e, c.charge, c.want)
		}
	}
}

func TestP2_14InTime(t *testing.T) {
	rnd := rand.New(rand.NewSource(14))
	for range 2000 {
		b := beam(randomFrom(rnd, 1, 1000))
		for range 1 + rnd.Intn(5) {
			b.Positions = append(b.Positions, randomFrom(rnd, 1, 200))
		}
		delivery := rnd.Intn(2000000)
		charge, e := furnace.LatestCharge(b, delivery)
		if e == api.ErrNone {
			if _, e := furnace.ZoneAt(b, 0, delivery); e != api.OK {
				t.Fatal("a charge at 0 is in time", b, delivery)
			}
			continue
		}
		if _, e := furnace.ZoneAt(b, charge, delivery-1); e != api.OK {
			t.Fatal("discharged early", b, charge, delivery, e)
		}
		if _, e := furnace.ZoneAt(b, charge, delivery); e != api.ErrNone {
			t.Fatal("discharged late", b, charge, delivery, e)
		}
		if _, e := furnace.ZoneAt(b, charge+1, delivery); e != api.OK {
			t.Fatal("a later charge is in time", b, charge, delivery, e)
		}
	}
}
