package furnace_test

import (
	"math"
	"math/rand"
	"testing"

	"cobble/api"
	"cobble/furnace"
)

func TestP2_1CheckTable(t *testing.T) {
	ten := []int{0, 0, 1, 1, 2, 2, 3, 3, 4, 4, 5, 5, 6, 6, 7, 7, 8, 8, 9, 9}
	for _, c := range []struct {
		table api.FurnaceTable
		at    int
		want  api.Errno
	}{
		{exampleTable(), 0, api.OK},
		{tableOf(), 0, api.ErrShape},
		{tableOf(0, 0), 0, api.OK},
		{tableOf(20000, 20000), 0, api.OK},
		{tableOf(20001, 0), 0, api.ErrRange},
		{tableOf(0, 20001), 0, api.ErrRange},
		{tableOf(-1, 0), 0, api.ErrRange},
		{tableOf(0, -1), 0, api.ErrRange},
		{tableOf(ten...), 0, api.OK},
		{tableOf(append([]int{-1, -1}, ten...)...), 0, api.ErrLarge},
		{tableOf(5, 5, 20001, 5), 1, api.ErrRange},
		{tableOf(5, 5, 6, -1), 1, api.ErrRange},
		{tableOf(5, 5, -1, 5), 1, api.ErrRange},
		{tableOf(5, 5, 5, 5), 1, api.ErrOrder},
		{tableOf(5, 5, 4, 5), 1, api.ErrOrder},
		{tableOf(5, 5, 6, 4), 1, api.ErrOrder},
		{tableOf(5, 5, 5, 4), 1, api.ErrOrder},
		{tableOf(5, 5, 5, 9), 1, api.ErrOrder},
		{tableOf(5, 5, 6, 5), 0, api.OK},
		{tableOf(5, 5, 6, 6), 0, api.OK},
		{tableOf(5, 5, 6, 7), 1, api.ErrBreak},
		{tableOf(5, 5, 105, 105), 0, api.OK},
		{tableOf(5, 5, 105, 106), 1, api.ErrBreak},
		{tableOf(0, 0, 100, 50, 200, 151), 2, api.ErrBreak},
		{tableOf(0, 0, 100, 50, 200, 150), 0, api.OK},
		{tableOf(0, 0, 100, 50, 100, 50), 2, api.ErrOrder},
		{tableOf(0, 0, 1, 2, -1, 0), 1, api.ErrBreak},
		{tableOf(0, 0, 1, 0, 2, 5, 1, 5), 2, api.ErrBreak},
		{tableOf(0, 0, math.MaxInt, math.MinInt), 1, api.ErrRange},
	} {
		if at, e := furnace.CheckTable(c.table); at != c.at || e != c.want {
			t.Errorf("%v: %d %v in place of %d %v", c.table, at, e, c.at, c.want)
		}
	}
}

func TestP2_1RadianceAt(t *testing.T) {
	for _, c := range []struct {
		table        api.FurnaceTable
		at, radiance int
		want         api.Errno
	}{
		{exampleTable(), 500, 50, api.OK},
		{exampleTable(), 1500, 350, api.OK},
		{exampleTable(), 2500, 600, api.OK},
		{exampleTable(), 0, 0, api.OK},
		{exampleTable(), 9, 0, api.OK},
		{exampleTable(), 10, 1, api.OK},
		{exampleTable(), 999, 99, api.OK},
		{exampleTable(), 1000, 100, api.OK},
		{exampleTable(), 1001, 100, api.OK},
		{exampleTable(), 1002, 101, api.OK},
		{exampleTable(), 1999, 599, api.OK},
		{exampleTable(), 2000, 600, api.OK},
		{exampleTable(), 2001, 600, api.OK},
		{exampleTable(), 20000, 600, api.OK},
		{exampleTable(), 20001, 0, api.ErrRange},
		{exampleTable(), -1, 0, api.ErrRange},
		{tableOf(100, 7, 110, 8), 0, 7, api.OK},
		{tableOf(100, 7, 110, 8), 99, 7, api.OK},
		{tableOf(100, 7, 110, 8), 109, 7, api.OK},
		{tableOf(100, 7, 110, 8), 110, 8, api.OK},
		{tableOf(100, 7), 0, 7, api.OK},
		{tableOf(100, 7), 100, 7, api.OK},
		{tableOf(100, 7), 20000, 7, api.OK},
		{tableOf(), -1, 0, api.ErrShape},
		{tableOf(0, 0, 1, 2), -1, 0, api.ErrBreak},
		{tableOf(0, 0, 1, 2), 1, 0, api.ErrBreak},
	} {
		if n, e := furnace.RadianceAt(c.table, c.at); n != c.radiance || e != c.want {
			t.Errorf("%v at %d: %d %v in place of %d %v", c.table, c.at, n, e, c.radiance, c.want)
		}
	}
}

func TestP2_1RadianceOfRandomTables(t *testing.T) {
	rnd := rand.New(rand.NewSource(1))
	for range 300 {
		table := randomTable(rnd)
		for range 100 {
			at := randomFrom(rnd, 0, 20000)
			if n, e := furnace.RadianceAt(table, at); e != api.OK || n != radianceByHand(table, at) {
				t.Fatal(table, at, n, e)
			}
		}
	}
}
