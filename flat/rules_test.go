package flat_test

import (
	"math"
	"math/big"
	"math/rand"
	"slices"
	"testing"

	"cobble/api"
	"cobble/flat"
)

// rulesCases are rules, the index of an actuator, and the error.
func rulesCases() []rulesCase {
	one, most := numbers(1), repeated(100000, 9)
	good, other := actor(0, 1, 1), actor(-10, 10, 1000)
	return []rulesCase{
		{exampleRules(), 0, api.OK}, {twoActors(), 0, api.OK}, {rules(one, good), 0, api.OK}, {rules(one, good, good, good), 0, api.OK}, {rules(repeated(-100000, 9), actor(-10, -10, repeated(-1000, 9)...)), 0, api.OK}, {rules(most, actor(10, 10, repeated(1000, 9)...)), 0, api.OK}, {rules(repeated(0, 4), actor(0, 0, repeated(0, 4)...)), 0, api.OK},
		{rules(nil, good), 0, api.ErrShape}, {rules(numbers()), 0, api.ErrShape}, {api.FlatRules{}, 0, api.ErrShape}, {rules(nil, actor(11, -11)), 0, api.ErrShape},
		{rules(repeated(0, 10), good), 0, api.ErrLarge}, {rules(repeated(100001, 10)), 0, api.ErrLarge},
		{rules(numbers(100001), good), 0, api.ErrRange}, {rules(numbers(-100001), good), 0, api.ErrRange}, {rules(numbers(0, 0, math.MinInt)), 0, api.ErrRange}, {rules(numbers(0, math.MaxInt, 0), good, good, good, good), 0, api.ErrRange},
		{rules(one), 0, api.ErrShape}, {rules(most), 0, api.ErrShape},
		{rules(one, good, good, good, good), 0, api.ErrLarge}, {rules(one, actor(11, 0, 1), good, good, good), 0, api.ErrLarge},
		{rules(one, actor(-11, 0, 1)), 0, api.ErrRange}, {rules(one, actor(0, 11, 1)), 0, api.ErrRange}, {rules(one, good, actor(11, -11)), 1, api.ErrRange}, {rules(one, good, other, actor(math.MinInt, 0, 1)), 2, api.ErrRange}, {rules(one, good, other, actor(0, math.MaxInt, 1)), 2, api.ErrRange}, {rules(one, actor(11, 11, 1)), 0, api.ErrRange}, {rules(one, actor(-11, -11, 1)), 0, api.ErrRange},
		{rules(one, actor(1, 0, 1)), 0, api.ErrOrder}, {rules(one, good, actor(10, -10)), 1, api.ErrOrder}, {rules(one, good, other, actor(1, 0, 1001)), 2, api.ErrOrder},
		{rules(one, actor(0, 1)), 0, api.ErrShape}, {rules(one, good, actor(0, 1, 1, 1)), 1, api.ErrShape}, {rules(one, other, good, actor(0, 1, 1001, 1001)), 2, api.ErrShape}, {rules(numbers(1, 2), actor(0, 1, 1)), 0, api.ErrShape},
		{rules(one, actor(0, 1, 1001)), 0, api.ErrRange}, {rules(one, good, actor(0, 1, -1001)), 1, api.ErrRange}, {rules(numbers(1, 2, 3), actor(0, 1, 0, 0, math.MinInt)), 0, api.ErrRange}, {rules(one, good, good, actor(0, 1, math.MaxInt)), 2, api.ErrRange},
		{rules(one, actor(0, 1, 1001), actor(11, 0, 1)), 0, api.ErrRange}, {rules(one, actor(0, 1), actor(11, 0, 1)), 0, api.ErrShape}, {rules(one, good, actor(1, 0, 1), actor(0, 1)), 1, api.ErrOrder},
	}
}

type rulesCase struct {
	r    api.FlatRules
	at   int
	want api.Errno
}

func TestP7_3CheckRules(t *testing.T) {
	for i, x := range rulesCases() {
		if at, e := flat.CheckRules(x.r); at != x.at || e != x.want {
			t.Error(i, at, e)
		}
		if l, n, e := flat.Best(x.r); e != x.want || e != api.OK && (len(l) != 0 || n != 0) {
			t.Error(i, l, n, e)
		}
	}
}

func TestP7_3Settings(t *testing.T) {
	for i, x := range []struct {
		r        api.FlatRules
		settings []int
		want     []int
		most     int
		err      api.Errno
	}{
		{exampleRules(), numbers(2), numbers(3, -2, 3), 3, api.OK}, {exampleRules(), numbers(3), numbers(1, -3, 1), 3, api.OK}, {exampleRules(), numbers(0), numbers(7, 0, 7), 7, api.OK}, {exampleRules(), numbers(-5), numbers(17, 5, 17), 17, api.OK}, {exampleRules(), numbers(5), numbers(-3, -5, -3), 5, api.OK},
		{twoActors(), numbers(-3, 2), numbers(13, -9, 5, 29), 29, api.OK}, {twoActors(), numbers(4, 0), numbers(1, 0, 3, 0), 3, api.OK},
		{rules(numbers(4), actor(0, 1, 4)), numbers(1), numbers(0), 0, api.OK},
		{rules(repeated(-100000, 9), actor(-10, 10, repeated(1000, 9)...), actor(-10, 10, repeated(-1000, 9)...), actor(10, 10, repeated(1000, 9)...)), numbers(10, -10, 10), repeated(-130000, 9), 130000, api.OK},
		{rules(numbers(5, -7), actor(-10, 10, 0, 3)), numbers(-9), numbers(5, 20), 20, api.OK},
		{exampleRules(), nil, nil, 0, api.ErrShape}, {exampleRules(), numbers(2, 2), nil, 0, api.ErrShape}, {twoActors(), numbers(9), nil, 0, api.ErrShape}, {twoActors(), numbers(9, 9, 9), nil, 0, api.ErrShape},
		{exampleRules(), numbers(6), nil, 0, api.ErrBreak}, {exampleRules(), numbers(-6), nil, 0, api.ErrBreak}, {twoActors(), numbers(4, 3), nil, 0, api.ErrBreak}, {twoActors(), numbers(-3, -1), nil, 0, api.ErrBreak}, {twoActors(), numbers(5, 0), nil, 0, api.ErrBreak}, {exampleRules(), numbers(math.MinInt), nil, 0, api.ErrBreak}, {exampleRules(), numbers(math.MaxInt), nil, 0, api.ErrBreak},
		{rules(numbers(1)), nil, nil, 0, api.ErrShape}, {rules(numbers(1), actor(1, 0, 1)), nil, nil, 0, api.ErrOrder}, {rules(numbers(1), actor(0, 11, 1)), numbers(11), nil, 0, api.ErrRange},
	} {
		if l, e := flat.DeviationsOf(x.r, x.settings); !alike(l, x.want) || e != x.err {
			t.Error(i, l, e)
		}
		if n, e := flat.MaximumOf(x.r, x.settings); n != x.most || e != x.err {
			t.Error(i, n, e)
		}
	}
}

func TestP7_3SettingsByHand(t *testing.T) {
	rnd := rand.New(rand.NewSource(73))
	for range 5000 {
		r := randomRules(rnd, []ruleSizes{smallSizes(), fullSizes()}[rnd.Intn(2)])
		settings := randomSettings(rnd, r)
		if l, e := flat.DeviationsOf(r, settings); !alike(l, deviationsByHand(r, settings)) || e != api.OK {
			t.Fatal(r, settings, l, e)
		}
		if n, e := flat.MaximumOf(r, settings); n != maximumByHand(r, settings) || e != api.OK {
			t.Fatal(r, settings, n, e)
		}
	}
}

// TestP7_3PositionWithoutEffect has a position at which no actuator acts.
func TestP7_3PositionWithoutEffect(t *testing.T) {
	r := rules(numbers(-8, 5), actor(-10, 10, 0, 7), actor(-10, 10, 0, -3))
	for _, settings := range settingsByHand(r) {
		if l, e := flat.DeviationsOf(r, settings); e != api.OK || l[0] != -8 {
			t.Fatal(settings, l, e)
		}
	}
}

func TestP7_3Best(t *testing.T) {
	for i, x := range []struct {
		r    api.FlatRules
		want []int
		most int
	}{
		{exampleRules(), numbers(2), 3}, {twoActors(), numbers(4, 0), 3},
		{rules(numbers(0), actor(-10, 10, 0)), numbers(-10), 0}, {rules(numbers(7), actor(-10, 10, 0), actor(-2, 3, 0)), numbers(-10, -2), 7},
		{rules(numbers(5), actor(-10, 10, 2)), numbers(2), 1}, {rules(numbers(-5), actor(-10, 10, 2)), numbers(-3), 1},
		{rules(numbers(6), actor(-10, 10, 1), actor(0, 10, 1)), numbers(-4, 10), 0}, {rules(numbers(6), actor(0, 10, 1), actor(-10, 10, 1)), numbers(0, 6), 0},
		{rules(numbers(100000), actor(-10, 10, 1000), actor(3, 3, -1000), actor(-10, -4, -1)), numbers(10, 3, -10), 92990},
		{rules(numbers(100000, -100000), actor(-10, 10, 1000, 1000), actor(-10, 10, 0, 0), actor(-10, 10, 1000, 1000)), numbers(-10, -10, 10), 100000},
	} {
		if l, n, e := flat.Best(x.r); !alike(l, x.want) || n != x.most || e != api.OK {
			t.Error(i, l, n, e)
		}
	}
}

func TestP7_3BestByHand(t *testing.T) {
	rnd := rand.New(rand.NewSource(730))
	seen := map[int]int{}
	for i := range 1500 {
		s := smallSizes()
		if i%10 == 0 {
			s = ruleSizes{api.MaxFlatNodes, 3000, 3, 4, api.MaxFlatEffect}
		}
		r := randomRules(rnd, s)
		l, n, e := flat.Best(r)
		best, most := bestByHand(r)
		if !alike(l, best) || n != most || e != api.OK {
			t.Fatal(r, l, n, e)
		}
		seen[len(l)]++
	}
	wantSeen(t, seen, 10, 1, 2, 3)
}

func TestP7_4BoundOf(t *testing.T) {
	wide := rules(with(repeated(100000, 9), 8, 99999), actor(-10, 10, repeated(-1000, 9)...), actor(-10, 10, repeated(1000, 9)...), actor(-10, 10, repeated(1000, 9)...))
	for i, x := range []struct {
		r       api.FlatRules
		weights []int
		want    api.Frac
		err     api.Errno
	}{
		{exampleRules(), numbers(1, 0, 0), frac(-3, 1), api.OK}, {exampleRules(), numbers(1, -2, 0), frac(7, 3), api.OK}, {exampleRules(), numbers(0, -2, 1), frac(7, 3), api.OK}, {exampleRules(), numbers(1, -4, 1), frac(7, 3), api.OK}, {exampleRules(), numbers(0, 1, 0), frac(-5, 1), api.OK}, {exampleRules(), numbers(-1, 0, 0), frac(-17, 1), api.OK}, {exampleRules(), numbers(1000, -1000, 0), frac(1, 1), api.OK}, {exampleRules(), numbers(0, 0, -1000), frac(-17, 1), api.OK},
		{rules(numbers(0), actor(0, 1, 0)), numbers(5), frac(0, 1), api.OK}, {rules(numbers(0, 1), actor(2, 3, 5, 0)), numbers(-1, 1), frac(11, 2), api.OK}, {rules(numbers(0, 1), actor(-3, -2, 5, 0)), numbers(-1, 1), frac(-7, 1), api.OK},
		{rules(repeated(100000, 9), actor(0, 10, repeated(-1000, 9)...)), repeated(1000, 9), frac(100000, 1), api.OK}, {rules(repeated(100000, 9), actor(-10, -10, repeated(1000, 9)...)), repeated(1000, 9), frac(110000, 1), api.OK}, {rules(repeated(-100000, 9), actor(0, 10, repeated(1000, 9)...)), repeated(1000, 9), frac(-110000, 1), api.OK},
		{exampleRules(), nil, api.Frac{}, api.ErrShape}, {exampleRules(), numbers(1, 1), api.Frac{}, api.ErrShape}, {exampleRules(), numbers(1001, 1, 1, 1), api.Frac{}, api.ErrShape},
		{exampleRules(), numbers(1001, 0, 0), api.Frac{}, api.ErrRange}, {exampleRules(), numbers(0, 0, -1001), api.Frac{}, api.ErrRange}, {exampleRules(), numbers(0, math.MinInt, 0), api.Frac{}, api.ErrRange}, {exampleRules(), numbers(0, math.MaxInt, 0), api.Frac{}, api.ErrRange},
		{exampleRules(), numbers(0, 0, 0), api.Frac{}, api.ErrZero}, {rules(numbers(3), actor(0, 0, 0)), numbers(0), api.Frac{}, api.ErrZero},
		{rules(numbers(3), actor(1, 0, 0)), nil, api.Frac{}, api.ErrOrder}, {rules(nil), nil, api.Frac{}, api.ErrShape},
		{wide, repeated(-1000, 9), frac(-1169999, 9), api.OK}, {wide, with(repeated(-1000, 9), 8, -999), api.Frac{}, api.ErrLarge},
	} {
		if f, e := flat.BoundOf(x.r, x.weights); f != x.want || e != x.err {
			t.Error(i, f, e)
		}
	}
}

// TestP7_4LargestBounds has bounds of which a part is MaxPart, or greater by 1: the
// sizes of the weights are 8999 in all, of which each actuator makes 10 1000 times as
// much, and the target the rest.
func TestP7_4LargestBounds(t *testing.T) {
	weights := with(repeated(1000, 9), 8, 999)
	for i, x := range []struct {
		sign, num int
		want      api.Errno
	}{
		{1, 1000000000, api.OK}, {1, 1000000001, api.ErrLarge}, {-1, 1000000000, api.OK}, {-1, 1000000001, api.ErrLarge},
	} {
		rest := x.num - 2*8999*10*1000
		target := repeated(0, 9)
		target[8] = restOf(rest)
		rest -= 999 * target[8]
		for k := range 8 {
			target[k] = min(rest/1000, 100000)
			rest -= 1000 * target[k]
		}
		setting := -10 * x.sign
		for k := range target {
			target[k] *= x.sign
		}
		r := rules(target, actor(setting, setting, repeated(1000, 9)...), actor(setting, setting, repeated(1000, 9)...))
		f, e := flat.BoundOf(r, weights)
		if e != x.want || e == api.OK && f != frac(x.sign*x.num, 8999) || boundByHand(r, weights).Cmp(rat(x.sign*x.num, 8999)) != 0 || rest != 0 {
			t.Error(i, f, e, rest)
		}
	}
}

// restOf is a target whose 999 times leaves a multiple of 1000.
func restOf(n int) int {
	for target := 99000; ; target++ {
		if (n-999*target)%1000 == 0 {
			return target
		}
	}
}

func TestP7_4BoundsByHand(t *testing.T) {
	rnd := rand.New(rand.NewSource(74))
	seen := map[api.Errno]int{}
	for range 20000 {
		r := randomRules(rnd, []ruleSizes{smallSizes(), fullSizes()}[rnd.Intn(2)])
		weights := randomWeights(rnd, len(r.Target), []int{2, api.MaxFlatWeight}[rnd.Intn(2)])
		if rnd.Intn(4) == 0 {
			r, weights = greatRules(rnd), randomNumbers(rnd, 9, 990, 1000)
		}
		bound := boundByHand(r, weights)
		want, wanted := api.Frac{}, api.ErrLarge
		if isSmall(bound) {
			want, wanted = fracOf(bound), api.OK
		}
		if f, e := flat.BoundOf(r, weights); f != want || e != wanted {
			t.Fatal(r, weights, f, e)
		}
		seen[wanted]++
	}
	wantSeen(t, seen, 100, api.OK, api.ErrLarge)
}

// TestP7_10Bounded has settings that are not whole, too.
func TestP7_10Bounded(t *testing.T) {
	rnd := rand.New(rand.NewSource(710))
	tight := 0
	for range 3000 {
		s := smallSizes()
		s.positions = 3
		r := randomRules(rnd, s)
		best, most, e := flat.Best(r)
		if n, f := flat.MaximumOf(r, best); n != most || firstOf(e, f) != api.OK {
			t.Fatal(r, best, most, n, e, f)
		}
		for _, settings := range settingsByHand(r) {
			if n, e := flat.MaximumOf(r, settings); n < most || e != api.OK {
				t.Fatal(r, best, most, settings, n, e)
			}
		}
		weights := randomWeights(rnd, len(r.Target), 3)
		bound, e := flat.BoundOf(r, weights)
		if e != api.OK || ratio(bound).Cmp(rat(most, 1)) > 0 || ratio(bound).Cmp(partlyMaximum(rnd, r)) > 0 {
			t.Fatal(r, weights, bound, most, e)
		}
		if bound == frac(most, 1) {
			tight++
		}
		var twice []int
		for _, w := range weights {
			twice = append(twice, 2*w)
		}
		if f, e := flat.BoundOf(r, twice); f != bound || e != api.OK {
			t.Fatal(r, weights, bound, f, e)
		}
	}
	if tight < 100 {
		t.Error("too few bounds prove that the best settings are the best", tight)
	}
}

func firstOf(errors ...api.Errno) api.Errno {
	i := slices.IndexFunc(errors, func(e api.Errno) bool { return e != api.OK })
	return append(errors, api.OK)[max(i, 0)]
}

// partlyMaximum is the maximum of random settings that are quarters.
func partlyMaximum(rnd *rand.Rand, r api.FlatRules) *big.Rat {
	var settings []int
	for _, a := range r.Actors {
		settings = append(settings, randomFrom(rnd, 4*a.Settings.Lo, 4*a.Settings.Hi))
	}
	most := rat(0, 1)
	for i, n := range r.Target {
		deviation := 4 * n
		for k, a := range r.Actors {
			deviation -= settings[k] * a.Effects[i]
		}
		if x := rat(abs(deviation), 4); x.Cmp(most) > 0 {
			most = x
		}
	}
	return most
}
