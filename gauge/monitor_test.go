package gauge_test

import (
	"math"
	"math/rand"
	"slices"
	"testing"

	"cobble/api"
	"cobble/gauge"
)

// monitorCases are monitors, and their errors.
func monitorCases() []monitorCase {
	return []monitorCase{
		{exampleMonitor(), api.OK}, {monitor(0, 0, 1, 0), api.OK}, {monitor(10, 100, 100, 10000), api.OK}, {monitor(0, 100, 1, 0), api.OK},
		{monitor(-1, 1, 2, 1), api.ErrRange}, {monitor(11, 1, 2, 1), api.ErrRange}, {monitor(math.MinInt, 1, 2, 1), api.ErrRange},
		{monitor(1, -1, 2, 1), api.ErrRange}, {monitor(1, 101, 2, 1), api.ErrRange}, {monitor(1, math.MaxInt, 2, 1), api.ErrRange},
		{monitor(1, 1, 0, 1), api.ErrRange}, {monitor(1, 1, 101, 1), api.ErrRange}, {monitor(1, 1, -1, 1), api.ErrRange}, {monitor(1, 1, math.MinInt, 1), api.ErrRange},
		{monitor(1, 1, 2, -1), api.ErrRange}, {monitor(1, 1, 2, 10001), api.ErrRange}, {monitor(1, 1, 2, math.MaxInt), api.ErrRange}, {api.GaugeMonitor{}, api.ErrRange},
	}
}

type monitorCase struct {
	m    api.GaugeMonitor
	want api.Errno
}

func TestP5_5CheckMonitor(t *testing.T) {
	for i, x := range monitorCases() {
		if e := gauge.CheckMonitor(x.m); e != x.want {
			t.Error(i, e)
		}
		if l, e := gauge.Monitored(x.m, make([]int, 501)); len(l) != 0 || x.want != api.OK && e != x.want {
			t.Error(i, l, e)
		}
		if n, e := gauge.RestsAfter(x.m, 10001); n != 0 || e != api.ErrRange {
			t.Error(i, n, e)
		}
	}
}

func TestP5_5Monitored(t *testing.T) {
	eights := slices.Repeat(numbers(8), 9)
	for i, x := range []struct {
		m            api.GaugeMonitor
		disturbances []int
		want         []int
		err          api.Errno
	}{
		{exampleMonitor(), eights, numbers(8, 8, 4, 0, -2, -2, -1, 0, 0), api.OK}, {exampleMonitor(), nil, nil, api.OK},
		// the output of the same tick is measured
		{monitor(0, 1, 2, 1), eights, numbers(8, 4, 2, 1, 1, 1, 1, 1, 1), api.OK}, {monitor(0, 1, 1, 0), numbers(5, 5, 5, -7), numbers(5, 0, 0, -12), api.OK}, {monitor(0, 3, 2, 0), numbers(10, 10, 10, 10), numbers(10, -5, 2, -1), api.OK},
		// the dead band contains its ends
		{monitor(0, 1, 1, 8), eights[:3], numbers(8, 8, 8), api.OK}, {monitor(0, 1, 1, 7), eights[:3], numbers(8, 0, 0), api.OK}, {monitor(0, 1, 1, 8), numbers(-8, -9, -9), numbers(-8, -9, 0), api.OK},
		// corrections are rounded towards 0
		{monitor(0, 1, 2, 0), numbers(3, 3, 3), numbers(3, 2, 1), api.OK}, {monitor(0, 1, 2, 0), numbers(-3, -3, -3), numbers(-3, -2, -1), api.OK}, {monitor(0, 1, 100, 0), numbers(99, 99, 199, 199), numbers(99, 99, 199, 198), api.OK}, {monitor(0, 1, 100, 0), numbers(-99, -99, -199, -199), numbers(-99, -99, -199, -198), api.OK},
		{monitor(3, 1, 1, 0), numbers(1, 2, 3, 4, 5, 6, 7), numbers(1, 2, 3, 4, 4, 3, 1), api.OK},
		{monitor(10, 1, 1, 0), slices.Repeat(numbers(1), 13), numbers(1, 1, 1, 1, 1, 1, 1, 1, 1, 1, 1, 0, -1), api.OK},
		{monitor(0, 100, 1, 0), numbers(1, 1, 1), numbers(1, -99, 9801), api.OK}, {monitor(0, 100, 1, 0), numbers(1, 1, 1, 0), nil, api.ErrBreak},
		// the greatest outputs, and greater ones
		{monitor(0, 9, 1, 0), numbers(10000, 10000), numbers(10000, -80000), api.OK}, {monitor(0, 11, 1, 0), numbers(10000, 10000), numbers(10000, -100000), api.OK}, {monitor(0, 11, 1, 0), numbers(10000, 9999), nil, api.ErrBreak}, {monitor(0, 11, 1, 0), numbers(-10000, -10000), numbers(-10000, 100000), api.OK}, {monitor(0, 11, 1, 0), numbers(-10000, -9999), nil, api.ErrBreak},
		{exampleMonitor(), make([]int, 500), make([]int, 500), api.OK}, {exampleMonitor(), make([]int, 501), nil, api.ErrLarge}, {exampleMonitor(), slices.Repeat(numbers(10001), 501), nil, api.ErrLarge},
		{exampleMonitor(), numbers(0, 10001), nil, api.ErrRange}, {exampleMonitor(), numbers(0, -10001), nil, api.ErrRange}, {exampleMonitor(), numbers(math.MinInt), nil, api.ErrRange}, {exampleMonitor(), numbers(math.MaxInt), nil, api.ErrRange}, {exampleMonitor(), numbers(10000, -10000), numbers(10000, -10000), api.OK},
		// the disturbances are looked at first
		{monitor(0, 100, 1, 0), numbers(10000, 0, 10001), nil, api.ErrRange}, {monitor(0, 100, 1, 0), numbers(10000, 0, 0), nil, api.ErrBreak},
	} {
		if l, e := gauge.Monitored(x.m, x.disturbances); !alike(l, x.want) || e != x.err {
			t.Error(i, l, e)
		}
	}
}

func TestP5_5RestsAfter(t *testing.T) {
	for i, x := range []struct {
		m           api.GaugeMonitor
		disturbance int
		want        int
		err         api.Errno
	}{
		{exampleMonitor(), 8, 7, api.OK}, {exampleMonitor(), 1, 0, api.OK}, {exampleMonitor(), -1, 0, api.OK}, {exampleMonitor(), 0, 0, api.OK}, {exampleMonitor(), -8, 7, api.OK},
		{monitor(0, 1, 2, 1), 8, 3, api.OK}, {monitor(0, 1, 1, 0), 10000, 1, api.OK}, {monitor(0, 0, 1, 0), 10000, 0, api.OK}, {monitor(10, 0, 1, 0), -10000, 0, api.OK},
		// a correction that is rounded to 0
		{monitor(0, 1, 100, 0), 99, 0, api.OK}, {monitor(5, 1, 100, 0), -99, 0, api.OK}, {monitor(0, 1, 100, 0), 100, 1, api.OK}, {monitor(5, 1, 100, 0), 100, 11, api.OK},
		// 8 is measured five times before the first correction is seen
		{monitor(4, 1, 8, 2), 8, 9, api.OK},
		// 1 less at each tick
		{monitor(0, 1, 100, 0), 150, 51, api.OK}, {monitor(0, 1, 100, 1), 199, 100, api.OK},
		{monitor(0, 1, 1, 10000), 10000, 0, api.OK},
		// outputs that swing for ever
		{monitor(0, 2, 1, 0), 5, 0, api.ErrOpen}, {monitor(1, 1, 1, 0), 5, 0, api.ErrOpen}, {monitor(0, 2, 1, 5), 5, 0, api.OK},
		{monitor(0, 3, 1, 0), 5, 0, api.ErrBreak}, {monitor(10, 100, 1, 0), 1, 0, api.ErrBreak}, {monitor(0, 100, 1, 0), 10000, 0, api.ErrBreak},
		{exampleMonitor(), 10001, 0, api.ErrRange}, {exampleMonitor(), -10001, 0, api.ErrRange}, {exampleMonitor(), math.MinInt, 0, api.ErrRange}, {exampleMonitor(), math.MaxInt, 0, api.ErrRange},
	} {
		if n, e := gauge.RestsAfter(x.m, x.disturbance); n != x.want || e != x.err {
			t.Error(i, n, e)
		}
	}
}

// TestP5_5RestsAtTheLastTick has monitors that rest after the last ticks that
// count, and shortly after them.
func TestP5_5RestsAtTheLastTick(t *testing.T) {
	seen := map[int]int{}
	for delay := range api.MaxGaugeDelay + 1 {
		for den := 80; den <= 100; den += 10 {
			for disturbance := 3000; disturbance <= 9900; disturbance += 7 {
				m := monitor(delay, 1, den, 0)
				want, wrong := restByHand(m, disturbance)
				if n, e := gauge.RestsAfter(m, disturbance); n != want || e != wrong {
					t.Fatal(m, disturbance, n, e, want, wrong)
				}
				if wrong == api.ErrOpen {
					want = -1
				}
				seen[want]++
			}
		}
	}
	wantSeen(t, seen, 1, -1, 500, 499)
}

func TestP5_5MonitorsByHand(t *testing.T) {
	rnd := rand.New(rand.NewSource(55))
	seen, rests := map[api.Errno]int{}, map[api.Errno]int{}
	for range 6000 {
		m := randomMonitor(rnd, api.MaxGaugeDelay, 1+rnd.Intn(api.MaxGaugeGain), []int{0, 5, 10000}[rnd.Intn(3)])
		disturbances := randomNumbers(rnd, rnd.Intn(40), []int{3, 200, 10000}[rnd.Intn(3)])
		want, breaks := monitoredByHand(m, disturbances)
		wrong := api.OK
		if breaks {
			want, wrong = nil, api.ErrBreak
		}
		if l, e := gauge.Monitored(m, disturbances); !alike(l, want) || e != wrong {
			t.Fatal(m, disturbances, l, e, want, wrong)
		}
		seen[wrong]++
		disturbance := randomFrom(rnd, -10000, 10000)
		n, wrong := restByHand(m, disturbance)
		if got, e := gauge.RestsAfter(m, disturbance); got != n || e != wrong {
			t.Fatal(m, disturbance, got, e, n, wrong)
		}
		rests[wrong]++
	}
	wantSeen(t, seen, 500, api.OK, api.ErrBreak)
	wantSeen(t, rests, 50, api.OK, api.ErrBreak, api.ErrOpen)
}

// TestP5_13DeadBand looks at outputs at which monitors rest.
func TestP5_13DeadBand(t *testing.T) {
	rnd := rand.New(rand.NewSource(513))
	rested := 0
	for range 3000 {
		m := randomMonitor(rnd, 4, 20, 30)
		disturbance := randomFrom(rnd, -300, 300)
		n, e := gauge.RestsAfter(m, disturbance)
		if e != api.OK || n > 480 {
			continue
		}
		rested++
		l, e := gauge.Monitored(m, slices.Repeat(numbers(disturbance), api.MaxGaugeRun))
		if e != api.OK {
			t.Fatal(m, disturbance, e)
		}
		output := l[n]
		if n > 0 && l[n-1] == output {
			t.Fatal("it rests earlier", m, disturbance, n, l)
		}
		for _, x := range l[n:] {
			if x != output {
				t.Fatal("it does not rest", m, disturbance, n, l)
			}
		}
		if max(output, -output) > m.Band && towardsZero(m.Num*output, m.Den) != 0 {
			t.Fatal("a correction is left", m, disturbance, output)
		}
	}
	if rested < 500 {
		t.Error("too few monitors that rest", rested)
	}
	for range 200 {
		m := randomMonitor(rnd, 10, 100, 10000)
		m.Num = 0
		disturbances := randomNumbers(rnd, rnd.Intn(50), 10000)
		if l, e := gauge.Monitored(m, disturbances); !alike(l, disturbances) || e != api.OK {
			t.Fatal(m, disturbances, l, e)
		}
	}
}
