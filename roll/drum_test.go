package roll_test

import (
	"math"
	"math/rand"
	"strings"
	"testing"

	"cobble/api"
	"cobble/roll"
)

func TestP6_1CheckRecord(t *testing.T) {
	for i, x := range []struct {
		x    []int
		want api.Errno
	}{
		{exampleWave(), api.OK}, {numbers(0), api.OK}, {numbers(1000000, -1000000), api.OK}, {make([]int, 240), api.OK},
		{nil, api.ErrShape}, {numbers(), api.ErrShape}, {make([]int, 241), api.ErrLarge}, {append(make([]int, 240), 1000001), api.ErrLarge}, {append(numbers(1000001), make([]int, 240)...), api.ErrLarge},
		{numbers(1000001), api.ErrRange}, {numbers(-1000001), api.ErrRange}, {numbers(0, 0, math.MaxInt), api.ErrRange}, {numbers(0, math.MinInt, 0), api.ErrRange}, {append(make([]int, 239), -1000001), api.ErrRange},
	} {
		if e := roll.CheckRecord(x.x); e != x.want {
			t.Error(i, e)
		}
	}
}

// drumCases are rolls, and their errors.
func drumCases() []drumCase {
	return []drumCase{
		{exampleDrum(), api.OK}, {drum(4, 3), api.OK}, {drum(64, 0), api.OK}, {drum(64, 63), api.OK}, {drum(12, 7), api.OK},
		{named("z"), api.OK}, {named("Z9-"), api.OK}, {named("a-----------"), api.OK}, {named("abcdefghijkl"), api.OK},
		{named(""), api.ErrName}, {named("abcdefghijklm"), api.ErrName}, {named("9a"), api.ErrName}, {named("-a"), api.ErrName}, {named("a b"), api.ErrName}, {named("a_"), api.ErrName}, {named("\u00e9"), api.ErrName}, {named("a\u00e9"), api.ErrName}, {named("a\xff"), api.ErrName}, {named("a\x00"), api.ErrName}, {named("@"), api.ErrName}, {named("["), api.ErrName}, {named("`"), api.ErrName}, {named("{"), api.ErrName}, {named("a/"), api.ErrName}, {named("a:"), api.ErrName}, {named(strings.Repeat("a", 100000)), api.ErrName},
		{drum(3, 0), api.ErrRange}, {drum(0, 0), api.ErrRange}, {drum(-4, 0), api.ErrRange}, {drum(65, 0), api.ErrRange}, {drum(68, 0), api.ErrRange}, {drum(math.MinInt, 0), api.ErrRange}, {drum(math.MaxInt, 0), api.ErrRange},
		{drum(5, 0), api.ErrForm}, {drum(6, 0), api.ErrForm}, {drum(7, 0), api.ErrForm}, {drum(63, 0), api.ErrForm}, {drum(62, 99), api.ErrForm},
		{drum(4, -1), api.ErrRange}, {drum(4, 4), api.ErrRange}, {drum(64, 64), api.ErrRange}, {drum(8, math.MinInt), api.ErrRange}, {drum(8, math.MaxInt), api.ErrRange},
		{api.RollDrum{}, api.ErrName}, {api.RollDrum{Name: "9", Period: 3, Offset: -1}, api.ErrName}, {drum(3, -1), api.ErrRange},
	}
}

type drumCase struct {
	d    api.RollDrum
	want api.Errno
}

func TestP6_1CheckDrum(t *testing.T) {
	for i, x := range drumCases() {
		if e := roll.CheckDrum(x.d); e != x.want {
			t.Error(i, e)
		}
		if _, e := roll.QuarterAt(x.d, 0); e != x.want {
			t.Error(i, e)
		}
		if l, e := roll.WaveOf(x.d, gauss(1000001, 0), 0); len(l) != 0 || x.want != api.OK && e != x.want {
			t.Error(i, l, e)
		}
	}
}

func TestP6_1QuarterAt(t *testing.T) {
	for i, x := range []struct {
		d      api.RollDrum
		sample int
		want   int
		err    api.Errno
	}{
		{exampleDrum(), 0, 0, api.OK}, {exampleDrum(), 1, 1, api.OK}, {exampleDrum(), 2, 2, api.OK}, {exampleDrum(), 3, 3, api.OK}, {exampleDrum(), 4, 0, api.OK}, {exampleDrum(), 239, 3, api.OK},
		{drum(4, 1), 0, 1, api.OK}, {drum(4, 3), 0, 3, api.OK}, {drum(4, 3), 1, 0, api.OK}, {drum(12, 2), 0, 0, api.OK}, {drum(12, 2), 1, 1, api.OK}, {drum(12, 11), 0, 3, api.OK}, {drum(12, 11), 1, 0, api.OK}, {drum(64, 63), 239, 2, api.OK}, {drum(64, 0), 15, 0, api.OK}, {drum(64, 0), 16, 1, api.OK}, {drum(64, 0), 63, 3, api.OK}, {drum(64, 0), 64, 0, api.OK},
		{exampleDrum(), -1, 0, api.ErrRange}, {exampleDrum(), 240, 0, api.ErrRange}, {exampleDrum(), math.MinInt, 0, api.ErrRange}, {exampleDrum(), math.MaxInt, 0, api.ErrRange}, {drum(5, 0), 240, 0, api.ErrForm}, {named(""), -1, 0, api.ErrName},
	} {
		if q, e := roll.QuarterAt(x.d, x.sample); q != x.want || e != x.err {
			t.Error(i, q, e)
		}
	}
}

// TestP6_1QuartersByHand has all rolls and samples.
func TestP6_1QuartersByHand(t *testing.T) {
	for period := 4; period <= api.MaxRollPeriod; period += 4 {
		for offset := range period {
			for sample := range api.MaxRollSamples {
				d := drum(period, offset)
				if q, e := roll.QuarterAt(d, sample); q != quarterByHand(d, sample) || e != api.OK {
					t.Fatal(d, sample, q, e)
				}
			}
		}
	}
}

func TestP6_1WaveOf(t *testing.T) {
	for i, x := range []struct {
		d     api.RollDrum
		g     api.Gauss
		count int
		want  []int
		err   api.Errno
	}{
		{exampleDrum(), gauss(3, 5), 4, exampleWave(), api.OK}, {exampleDrum(), gauss(3, 5), 1, numbers(3), api.OK}, {exampleDrum(), gauss(3, 5), 6, numbers(3, -5, -3, 5, 3, -5), api.OK}, {exampleDrum(), gauss(0, 0), 3, make([]int, 3), api.OK}, {exampleDrum(), gauss(1, 1), 240, waveByHand(exampleDrum(), gauss(1, 1), 240), api.OK},
		{drum(4, 1), gauss(3, 5), 4, numbers(-5, -3, 5, 3), api.OK}, {drum(8, 7), gauss(2, -1), 5, numbers(-1, 2, 2, 1, 1), api.OK}, {drum(12, 0), gauss(0, 1), 12, numbers(0, 0, 0, -1, -1, -1, 0, 0, 0, 1, 1, 1), api.OK},
		{exampleDrum(), gauss(1000000, -1000000), 4, numbers(1000000, 1000000, -1000000, -1000000), api.OK}, {exampleDrum(), gauss(-999999, 999999), 4, numbers(-999999, -999999, 999999, 999999), api.OK},
		{exampleDrum(), gauss(1000001, 0), 0, nil, api.ErrRange}, {exampleDrum(), gauss(-1000001, 0), 4, nil, api.ErrRange}, {exampleDrum(), gauss(0, 1000001), 4, nil, api.ErrRange}, {exampleDrum(), gauss(0, -1000001), 4, nil, api.ErrRange}, {exampleDrum(), gauss(math.MinInt, 0), 4, nil, api.ErrRange}, {exampleDrum(), gauss(0, math.MaxInt), 4, nil, api.ErrRange},
		{exampleDrum(), gauss(3, 5), 0, nil, api.ErrRange}, {exampleDrum(), gauss(3, 5), -1, nil, api.ErrRange}, {exampleDrum(), gauss(3, 5), 241, nil, api.ErrRange}, {exampleDrum(), gauss(3, 5), math.MinInt, nil, api.ErrRange}, {exampleDrum(), gauss(3, 5), math.MaxInt, nil, api.ErrRange},
	} {
		if l, e := roll.WaveOf(x.d, x.g, x.count); !alike(l, x.want) || e != x.err {
			t.Error(i, l, e)
		}
	}
}

func TestP6_1WavesByHand(t *testing.T) {
	rnd := rand.New(rand.NewSource(61))
	for range 2000 {
		d, g, count := randomDrum(rnd, api.MaxRollPeriod), randomGauss(rnd, randomSize(rnd)), randomFrom(rnd, 1, api.MaxRollSamples)
		if l, e := roll.WaveOf(d, g, count); !alike(l, waveByHand(d, g, count)) || e != api.OK {
			t.Fatal(d, g, count, l, e)
		}
	}
}
