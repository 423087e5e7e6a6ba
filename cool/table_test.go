package cool_test

import (
	"math"
	"math/rand"
	"testing"

	"cobble/api"
	"cobble/cool"
)

// tableCase is a table, the index of a bank, and the error.
type tableCase struct {
	t    api.CoolTable
	at   int
	want api.Errno
}

func tableCases() []tableCase {
	good, most := bank(0, 0, 0), bank(1000, 1000, 8)
	return []tableCase{
		{exampleTable(), 0, api.OK}, {table(0, 0, good), 0, api.OK}, {table(12000, 100, most, most, most, most), 0, api.OK}, {table(1, 1, good, bank(0, 1000, 8)), 0, api.OK},
		{table(-1, 0, good), 0, api.ErrRange}, {table(12001, 0, good), 0, api.ErrRange}, {table(math.MinInt, 0, good), 0, api.ErrRange}, {table(math.MaxInt, 0), 0, api.ErrRange}, {table(0, -1, good), 0, api.ErrRange}, {table(0, 101, good), 0, api.ErrRange}, {table(0, math.MinInt), 0, api.ErrRange}, {table(0, math.MaxInt, good, good, good, good, good), 0, api.ErrRange},
		{table(200, 10), 0, api.ErrShape}, {api.CoolTable{}, 0, api.ErrShape}, {table(12000, 100), 0, api.ErrShape},
		{table(0, 0, good, good, good, good, good), 0, api.ErrLarge}, {table(0, 0, bank(-1, 0, 0), good, good, good, good), 0, api.ErrLarge},
		{table(0, 0, bank(-1, 0, 0)), 0, api.ErrRange}, {table(0, 0, bank(0, 1001, 0)), 0, api.ErrRange}, {table(0, 0, good, bank(1001, 1001, 0)), 1, api.ErrRange}, {table(0, 0, good, most, bank(-1, -1, 0)), 2, api.ErrRange}, {table(0, 0, bank(math.MinInt, 0, 0)), 0, api.ErrRange}, {table(0, 0, good, good, good, bank(0, math.MaxInt, 0)), 3, api.ErrRange}, {table(0, 0, bank(1001, 0, 0)), 0, api.ErrRange}, {table(0, 0, bank(0, -1, 0)), 0, api.ErrRange},
		{table(0, 0, bank(0, 0, -1)), 0, api.ErrRange}, {table(0, 0, good, bank(0, 0, 9)), 1, api.ErrRange}, {table(0, 0, good, bank(0, 0, math.MinInt)), 1, api.ErrRange}, {table(0, 0, good, bank(0, 0, math.MaxInt)), 1, api.ErrRange}, {table(0, 0, good, bank(2, 1, 9)), 1, api.ErrRange},
		{table(0, 0, bank(1, 0, 0)), 0, api.ErrOrder}, {table(0, 0, most, good, bank(1000, 999, 8)), 2, api.ErrOrder}, {table(0, 0, bank(2, 1, 0), bank(-1, 0, 0)), 0, api.ErrOrder}, {table(0, 0, bank(0, 0, 9), bank(2, 1, 0)), 0, api.ErrRange},
	}
}

func TestP8_1CheckTable(t *testing.T) {
	for i, x := range tableCases() {
		if at, e := cool.CheckTable(x.t); at != x.at || e != x.want {
			t.Error(i, at, e)
		}
		if _, e := cool.PassedBy(x.t, 0, ends(0, 0)); e != x.want {
			t.Error(i, e)
		}
		if _, e := cool.AvailableAt(x.t, 11); e != x.want {
			t.Error(i, e)
		}
	}
}

func TestP8_2PassedBy(t *testing.T) {
	warm := ends(9000, 9000)
	still, full := table(200, 0, bank(0, 0, 0), bank(0, 0, 0)), table(200, 0, bank(1000, 1000, 0))
	for i, x := range []struct {
		t     api.CoolTable
		set   int
		entry api.Range
		want  api.Range
		err   api.Errno
	}{
		{exampleTable(), 0, warm, ends(8980, 8980), api.OK}, {exampleTable(), 1, warm, ends(8100, 8100), api.OK}, {exampleTable(), 2, warm, ends(6343, 7222), api.OK}, {exampleTable(), 3, warm, ends(5727, 6518), api.OK},
		{still, 0, ends(200, 12000), ends(200, 12000), api.OK}, {still, 3, ends(200, 12000), ends(200, 12000), api.OK},
		{full, 0, ends(201, 12000), ends(201, 12000), api.OK}, {full, 1, ends(201, 12000), ends(200, 200), api.OK}, {full, 1, ends(199, 200), ends(199, 200), api.OK}, {full, 1, ends(0, 199), ends(0, 199), api.OK}, {full, 1, ends(0, 12000), ends(0, 200), api.OK},
		{table(200, 100, bank(1000, 1000, 0)), 1, ends(9000, 9000), ends(100, 100), api.OK}, {table(200, 100, bank(1000, 1000, 0), bank(1000, 1000, 0), bank(1000, 1000, 0)), 7, ends(9000, 9000), ends(0, 0), api.OK},
		{table(0, 100, bank(0, 0, 0)), 0, ends(99, 101), ends(0, 1), api.OK}, {table(0, 100, bank(0, 0, 0)), 0, ends(0, 100), ends(0, 0), api.OK}, {table(12000, 0, bank(1000, 1000, 0)), 1, ends(11999, 12000), ends(11999, 12000), api.OK},
		// (T - Water) times the rate is 999, 1000, 1001, 1999 and 2000 thousandths.
		{table(0, 0, bank(1, 1, 0)), 1, ends(999, 1000), ends(999, 999), api.OK}, {table(0, 0, bank(1, 1, 0)), 1, ends(1001, 1999), ends(1000, 1998), api.OK}, {table(0, 0, bank(1, 1, 0)), 1, ends(2000, 2000), ends(1998, 1998), api.OK}, {table(0, 0, bank(0, 1, 0)), 1, ends(2000, 2000), ends(1998, 2000), api.OK},
		{table(0, 0, bank(500, 500, 0), bank(500, 500, 0), bank(500, 500, 0), bank(500, 500, 0)), 15, ends(11, 12), ends(1, 1), api.OK}, {table(0, 1, bank(500, 500, 0), bank(0, 0, 0)), 1, ends(11, 12), ends(4, 4), api.OK}, {table(10, 1, bank(500, 500, 0)), 1, ends(10, 11), ends(9, 10), api.OK},
		{exampleTable(), -1, warm, api.Range{}, api.ErrRange}, {exampleTable(), 4, warm, api.Range{}, api.ErrRange}, {full, 2, warm, api.Range{}, api.ErrRange}, {exampleTable(), math.MinInt, warm, api.Range{}, api.ErrRange}, {exampleTable(), math.MaxInt, warm, api.Range{}, api.ErrRange}, {exampleTable(), -1, ends(1, 0), api.Range{}, api.ErrRange},
		{exampleTable(), 0, ends(-1, 0), api.Range{}, api.ErrRange}, {exampleTable(), 3, ends(0, 12001), api.Range{}, api.ErrRange}, {exampleTable(), 0, ends(12001, 0), api.Range{}, api.ErrRange}, {exampleTable(), 0, ends(0, -1), api.Range{}, api.ErrRange}, {exampleTable(), 0, ends(math.MinInt, math.MaxInt), api.Range{}, api.ErrRange}, {exampleTable(), 0, ends(1, 0), api.Range{}, api.ErrOrder}, {exampleTable(), 0, ends(12000, 11999), api.Range{}, api.ErrOrder},
		{table(0, 101), 9, ends(1, 0), api.Range{}, api.ErrRange}, {table(0, 0), 9, ends(1, 0), api.Range{}, api.ErrShape}, {table(0, 0, bank(1, 0, 0)), 9, warm, api.Range{}, api.ErrOrder},
	} {
		if r, e := cool.PassedBy(x.t, x.set, x.entry); r != x.want || e != x.err {
			t.Error(i, r, e)
		}
	}
}

func TestP8_2PassedByHand(t *testing.T) {
	rnd := rand.New(rand.NewSource(82))
	seen := map[string]int{}
	for range 20000 {
		x, entry := randomTable(rnd, api.MaxCoolBanks, api.MaxCoolDelay), randomEnds(rnd, 0, api.MaxCoolDegrees)
		set := randomSet(rnd, x)
		want := exitByHand(x, set, entry)
		if r, e := cool.PassedBy(x, set, entry); r != want || e != api.OK {
			t.Fatal(x, set, entry, r, e, want)
		}
		if entry.Hi < x.Water {
			seen["cold"]++
		}
		if want.Hi == 0 {
			seen["zero"]++
		}
		if want.Lo < want.Hi {
			seen["range"]++
		}
	}
	wantSeen(t, seen, 100, "cold", "zero", "range")
}

func TestP8_2AvailableAt(t *testing.T) {
	delays := table(0, 0, bank(0, 0, 0), bank(0, 0, 1), bank(0, 0, 3), bank(0, 0, 8))
	for i, x := range []struct {
		t       api.CoolTable
		segment int
		want    int
		err     api.Errno
	}{
		{exampleTable(), 0, 1, api.OK}, {exampleTable(), 1, 3, api.OK}, {exampleTable(), 2, 3, api.OK}, {exampleTable(), 11, 3, api.OK},
		{delays, 0, 3, api.OK}, {delays, 1, 7, api.OK}, {delays, 4, 7, api.OK}, {delays, 5, 15, api.OK}, {delays, 11, 15, api.OK},
		{table(0, 0, bank(0, 0, 8)), 0, 0, api.OK}, {table(0, 0, bank(0, 0, 8)), 7, 0, api.OK}, {table(0, 0, bank(0, 0, 8)), 8, 1, api.OK},
		{exampleTable(), -1, 0, api.ErrMissing}, {exampleTable(), 12, 0, api.ErrMissing}, {exampleTable(), math.MinInt, 0, api.ErrMissing}, {exampleTable(), math.MaxInt, 0, api.ErrMissing},
		{table(0, 0), -1, 0, api.ErrShape}, {table(-1, 0), 12, 0, api.ErrRange},
	} {
		if set, e := cool.AvailableAt(x.t, x.segment); set != x.want || e != x.err {
			t.Error(i, set, e)
		}
	}
}

func TestP8_2AvailableByHand(t *testing.T) {
	rnd := rand.New(rand.NewSource(820))
	for range 2000 {
		x := randomTable(rnd, api.MaxCoolBanks, api.MaxCoolDelay)
		for segment := range api.MaxCoolSegments {
			available, e := cool.AvailableAt(x, segment)
			if e != api.OK {
				t.Fatal(x, segment, e)
			}
			for _, set := range allSets(x) {
				if isAvailableByHand(x, set, segment) != (set|available == available) {
					t.Fatal(x, segment, available, set)
				}
			}
		}
	}
}

// exitOf is the exit temperature of one entry temperature with one rate for each bank.
func exitOf(t *testing.T, x api.CoolTable, set, entry int, rates []int) int {
	t.Helper()
	x = copyOf(x)
	for b, rate := range rates {
		x.Banks[b].Rate = ends(rate, rate)
	}
	r, e := cool.PassedBy(x, set, ends(entry, entry))
	if e != api.OK || r.Lo != r.Hi {
		t.Fatal(x, set, entry, r, e)
	}
	return r.Lo
}

func TestP8_8Monotone(t *testing.T) {
	rnd := rand.New(rand.NewSource(88))
	seen := map[string]int{}
	for range 5000 {
		x, entry := randomTable(rnd, api.MaxCoolBanks, 0), randomFrom(rnd, 0, api.MaxCoolDegrees-1)
		set := randomSet(rnd, x)
		var rates []int
		for _, b := range x.Banks {
			rates = append(rates, randomWithin(rnd, b.Rate))
		}
		exit := exitOf(t, x, set, entry, rates)
		for _, hotter := range numbers(entry+1, randomFrom(rnd, entry, api.MaxCoolDegrees), api.MaxCoolDegrees) {
			if other := exitOf(t, x, set, hotter, rates); other < exit {
				t.Fatal(x, set, entry, hotter, rates, exit, other)
			} else if other > exit {
				seen["hotter"]++
			}
		}
		for b, rate := range rates {
			if other := exitOf(t, x, set|1<<b, entry, rates); other > exit {
				t.Fatal(x, set, b, entry, rates, exit, other)
			} else if other < exit {
				seen["further"]++
			}
			if other := exitOf(t, x, set, entry, with(rates, b, randomFrom(rnd, rate, api.CoolPart))); other > exit {
				t.Fatal(x, set, b, entry, rates, exit, other)
			} else if other < exit {
				seen["greater"]++
			}
		}
	}
	wantSeen(t, seen, 1000, "hotter", "further", "greater")
}

func TestP8_9Enclosed(t *testing.T) {
	rnd := rand.New(rand.NewSource(89))
	ends := 0
	for range 5000 {
		x, entry := randomTable(rnd, api.MaxCoolBanks, 0), randomEnds(rnd, 0, api.MaxCoolDegrees)
		set := randomSet(rnd, x)
		r, e := cool.PassedBy(x, set, entry)
		if e != api.OK {
			t.Fatal(x, set, entry, e)
		}
		for range 10 {
			var rates []int
			for _, b := range x.Banks {
				rates = append(rates, randomWithin(rnd, b.Rate))
			}
			exit := passedByHand(x, set, randomWithin(rnd, entry), rates)
			if exit < r.Lo || exit > r.Hi {
				t.Fatal(x, set, entry, rates, exit, r)
			}
			if r.Lo < r.Hi && (exit == r.Lo || exit == r.Hi) {
				ends++
			}
		}
	}
	if ends < 1000 {
		t.Error("too few exit temperatures are an end of the range", ends)
	}
}
