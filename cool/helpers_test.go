package cool_test

import (
	"math/rand"
	"reflect"
	"slices"
	"testing"

	"cobble/api"
)

// The values of the chapter's examples; tests change their own copies of them.

func exampleTable() api.CoolTable {
	return table(200, 10, bank(100, 100, 0), bank(200, 300, 2))
}

// exampleStrip is that of the example 3.
func exampleStrip() api.CoolStrip {
	return strip(3, ends(9000, 9000), ends(6000, 7300))
}

// exampleSets are those of the examples 4, 6 and 7.
func exampleSets() []int {
	return numbers(0, 2, 2)
}

func examplePrices() api.CoolPrices {
	return prices(5, 1)
}

// exampleBound is that of the example 5.
func exampleBound() api.CoolBound {
	return bound(examplePrices(), numbers(11, 17, 0, 0), numbers(0, 0, 10, 0), numbers(0, 0, 5, 0))
}

// examplePlan is that of the example 6.
func examplePlan() api.CoolPlan {
	return plan(nil, ranges(0, 1))
}

// exampleFaults are those of the example 7.
func exampleFaults() []api.CoolFault {
	return faults(opened(0))
}

// exampleMeasured is that of the example 7.
func exampleMeasured() api.CoolMeasured {
	return measured(exampleSets(), ranges(8100, 8100, 5727, 6518, 5727, 6518))
}

func numbers(l ...int) []int {
	return l
}

func ends(lo, hi int) api.Range {
	return api.Range{Lo: lo, Hi: hi}
}

// ranges has the ends of each range, one after another.
func ranges(l ...int) []api.Range {
	var r []api.Range
	for i := 0; i < len(l); i += 2 {
		r = append(r, ends(l[i], l[i+1]))
	}
	return r
}

func bank(lo, hi, delay int) api.CoolBank {
	return api.CoolBank{Rate: ends(lo, hi), Delay: delay}
}

func table(water, air int, banks ...api.CoolBank) api.CoolTable {
	return api.CoolTable{Water: water, Air: air, Banks: banks}
}

// strip has so many segments alike.
func strip(n int, entry, target api.Range) api.CoolStrip {
	return api.CoolStrip{Entries: slices.Repeat([]api.Range{entry}, n), Targets: slices.Repeat([]api.Range{target}, n)}
}

func plan(l ...[]api.Range) api.CoolPlan {
	return api.CoolPlan{Commands: l}
}

func prices(open, change int) api.CoolPrices {
	return api.CoolPrices{Open: open, Change: change}
}

func bound(c api.CoolPrices, values ...[]int) api.CoolBound {
	return api.CoolBound{Prices: c, Values: values}
}

func closed(bank int) api.CoolFault {
	return api.CoolFault{Bank: bank}
}

func opened(bank int) api.CoolFault {
	return api.CoolFault{Bank: bank, Open: true}
}

func faults(l ...api.CoolFault) []api.CoolFault {
	return l
}

func measured(sets []int, exits []api.Range) api.CoolMeasured {
	return api.CoolMeasured{Sets: sets, Exits: exits}
}

// repeated is a number so many times.
func repeated(n, count int) []int {
	return slices.Repeat(numbers(n), count)
}

// with is a copy of a slice in which one item is another one.
func with[T any](l []T, i int, x T) []T {
	l = slices.Clone(l)
	l[i] = x
	return l
}

// wantErrors mends one fault after another, and wants the error of each.
func wantErrors(t *testing.T, call func() api.Errno, steps ...step) {
	t.Helper()
	for i, s := range steps {
		if e := call(); e != s.want {
			t.Errorf("step %d: %v in place of %v", i, e, s.want)
		}
		s.mend()
	}
	if e := call(); e != api.OK {
		t.Errorf("mended: %v", e)
	}
}

// step is an error, and how the fault is mended.
type step struct {
	want api.Errno
	mend func()
}

// copied is a value that shares no memory with x, and in which empty slices are
// nil ones.
func copied(x reflect.Value) reflect.Value {
	y := reflect.New(x.Type()).Elem()
	switch x.Kind() {
	case reflect.Slice:
		for i := range x.Len() {
			y = reflect.Append(y, copied(x.Index(i)))
		}
	case reflect.Struct:
		for i := range x.NumField() {
			if y.Field(i).CanSet() {
				y.Field(i).Set(copied(x.Field(i)))
			}
		}
	default:
		y.Set(x)
	}
	return y
}

func copyOf[T any](x T) T {
	return copied(reflect.ValueOf(x)).Interface().(T)
}

func alike(a, b any) bool {
	return reflect.DeepEqual(copied(reflect.ValueOf(a)).Interface(), copied(reflect.ValueOf(b)).Interface())
}

// wantSeen wants that each of some kinds was seen at least so many times.
func wantSeen[T comparable](t *testing.T, seen map[T]int, least int, kinds ...T) {
	t.Helper()
	for _, kind := range kinds {
		if seen[kind] < least {
			t.Error("too few of a kind", kind, seen)
		}
	}
}

// The functions 'byHand' follow the definitions of the chapter word by word, with sets
// of banks as slices.

// banksOf are the banks in a set.
func banksOf(set int) []int {
	var l []int
	for b, weight := 0, 1; set > 0; b, weight = b+1, 2*weight {
		if set%(2*weight) != 0 {
			l = append(l, b)
			set -= weight
		}
	}
	return l
}

// setOf is the set that contains banks.
func setOf(banks []int) int {
	set, weight := 0, 1
	for b := range api.MaxCoolBanks {
		if slices.Contains(banks, b) {
			set += weight
		}
		weight *= 2
	}
	return set
}

// allSets are all sets of banks of a table.
func allSets(t api.CoolTable) []int {
	l := numbers(0)
	for b := range t.Banks {
		for _, set := range l {
			l = append(l, setOf(append(banksOf(set), b)))
		}
	}
	slices.Sort(l)
	return l
}

// passedByHand is a temperature after the table, with one rate for each bank.
func passedByHand(t api.CoolTable, set, degrees int, rates []int) int {
	for b := range t.Banks {
		if slices.Contains(banksOf(set), b) && degrees > t.Water {
			thousandths := (degrees - t.Water) * rates[b]
			degrees -= (thousandths - thousandths%1000) / 1000
		}
		if degrees < t.Air {
			degrees = 0
		} else {
			degrees -= t.Air
		}
	}
	return degrees
}

func exitByHand(t api.CoolTable, set int, entry api.Range) api.Range {
	var lower, upper []int
	for _, b := range t.Banks {
		lower, upper = append(lower, b.Rate.Lo), append(upper, b.Rate.Hi)
	}
	return ends(passedByHand(t, set, entry.Lo, upper), passedByHand(t, set, entry.Hi, lower))
}

func isAvailableByHand(t api.CoolTable, set, segment int) bool {
	return !slices.ContainsFunc(banksOf(set), func(b int) bool { return segment+b < t.Banks[b].Delay })
}

// setsByHand are the sets of a plan, tick by tick.
func setsByHand(t api.CoolTable, p api.CoolPlan, count int) []int {
	var sets []int
	for i := range count {
		var open []int
		for b, l := range p.Commands {
			if slices.Contains(ticksOf(l), i+b-t.Banks[b].Delay) {
				open = append(open, b)
			}
		}
		sets = append(sets, setOf(open))
	}
	return sets
}

// ticksOf are all ticks of ranges.
func ticksOf(l []api.Range) []int {
	var ticks []int
	for _, r := range l {
		for n := r.Lo; n <= r.Hi; n++ {
			ticks = append(ticks, n)
		}
	}
	return ticks
}

// meetByHand tells whether two ranges have a whole number in common.
func meetByHand(a, b api.Range) bool {
	lo, hi := max(a.Lo, b.Lo), min(a.Hi, b.Hi)
	return hi-lo >= 0
}

func answerByHand(exit, target api.Range) int {
	switch {
	case exit.Lo >= target.Lo && exit.Lo <= target.Hi && exit.Hi >= target.Lo && exit.Hi <= target.Hi:
		return api.AnswerYes
	case meetByHand(exit, target):
		return api.AnswerMaybe
	}
	return api.AnswerNo
}

func reachingByHand(t api.CoolTable, x api.CoolStrip, segment int) []int {
	var l []int
	for _, set := range allSets(t) {
		exit := exitByHand(t, set, x.Entries[segment])
		if isAvailableByHand(t, set, segment) && answerByHand(exit, x.Targets[segment]) == api.AnswerYes {
			l = append(l, set)
		}
	}
	return l
}

func permittedByHand(t api.CoolTable, x api.CoolStrip, segment int) []int {
	if l := reachingByHand(t, x, segment); l != nil {
		return l
	}
	var l []int
	for _, set := range allSets(t) {
		if isAvailableByHand(t, set, segment) {
			l = append(l, set)
		}
	}
	return l
}

// differing is the number of banks in exactly one of two sets.
func differing(a, b int) int {
	n := 0
	for bank := range api.MaxCoolBanks {
		if slices.Contains(banksOf(a), bank) != slices.Contains(banksOf(b), bank) {
			n++
		}
	}
	return n
}

func costByHand(c api.CoolPrices, sets []int) int {
	cost := 0
	for i, set := range sets {
		cost += c.Open * len(banksOf(set))
		if i > 0 {
			cost += c.Change * differing(sets[i-1], set)
		}
	}
	return cost
}

// permittedSetsByHand are all permitted sets of a strip.
func permittedSetsByHand(t api.CoolTable, x api.CoolStrip) [][]int {
	l := [][]int{nil}
	for i := range x.Entries {
		var longer [][]int
		for _, sets := range l {
			for _, set := range permittedByHand(t, x, i) {
				longer = append(longer, append(slices.Clone(sets), set))
			}
		}
		l = longer
	}
	return l
}

func cheapestByHand(t api.CoolTable, x api.CoolStrip, c api.CoolPrices) ([]int, int) {
	var best []int
	for _, sets := range permittedSetsByHand(t, x) {
		n := costByHand(c, sets) - costByHand(c, best)
		if best == nil || n < 0 || n == 0 && slices.Compare(sets, best) < 0 {
			best = sets
		}
	}
	return best, costByHand(c, best)
}

// boundByHand is a bound, and whether it is accepted.
func boundByHand(t api.CoolTable, x api.CoolStrip, b api.CoolBound) (int, bool) {
	for i, last := 0, len(x.Entries)-1; i <= last; i++ {
		for _, set := range permittedByHand(t, x, i) {
			most := b.Prices.Open * len(banksOf(set))
			if i == last && b.Values[i][set] > most {
				return 0, false
			}
			if i == last {
				continue
			}
			for _, next := range permittedByHand(t, x, i+1) {
				if b.Values[i][set] > most+b.Prices.Change*differing(set, next)+b.Values[i+1][next] {
					return 0, false
				}
			}
		}
	}
	var l []int
	for _, set := range permittedByHand(t, x, 0) {
		l = append(l, b.Values[0][set])
	}
	return slices.Min(l), true
}

// greatestBound is a bound with the greatest numbers that are accepted, from the last
// segment on.
func greatestBound(t api.CoolTable, x api.CoolStrip, c api.CoolPrices) api.CoolBound {
	b := bound(c, make([][]int, len(x.Entries))...)
	for i := len(x.Entries) - 1; i >= 0; i-- {
		for _, set := range allSets(t) {
			rest := numbers(0)
			if i+1 < len(x.Entries) {
				rest = nil
				for _, next := range permittedByHand(t, x, i+1) {
					rest = append(rest, c.Change*differing(set, next)+b.Values[i+1][next])
				}
			}
			b.Values[i] = append(b.Values[i], c.Open*len(banksOf(set))+slices.Min(rest))
		}
	}
	return b
}

func withFaultsByHand(sets []int, faults []api.CoolFault) []int {
	var l []int
	for _, set := range sets {
		banks := banksOf(set)
		for _, f := range faults {
			banks = slices.DeleteFunc(banks, func(b int) bool { return b == f.Bank })
			if f.Open {
				banks = append(banks, f.Bank)
			}
		}
		l = append(l, setOf(banks))
	}
	return l
}

func explainsByHand(t api.CoolTable, x api.CoolStrip, m api.CoolMeasured, faults []api.CoolFault) bool {
	for i, set := range withFaultsByHand(m.Sets, faults) {
		if !meetByHand(exitByHand(t, set, x.Entries[i]), m.Exits[i]) {
			return false
		}
	}
	return true
}

// allFaults are all sets of faults of a table.
func allFaults(t api.CoolTable) [][]api.CoolFault {
	l := [][]api.CoolFault{nil}
	for b := range t.Banks {
		for _, set := range slices.Clone(l) {
			l = append(l, append(slices.Clone(set), opened(b)), append(slices.Clone(set), closed(b)))
		}
	}
	return l
}

// compareFaults compares by the banks, and then closed before open.
func compareFaults(a, b api.CoolFault) int {
	switch {
	case a.Bank != b.Bank:
		return a.Bank - b.Bank
	case a.Open == b.Open:
		return 0
	case b.Open:
		return -1
	}
	return 1
}

func faultsByHand(t api.CoolTable, x api.CoolStrip, m api.CoolMeasured) [][]api.CoolFault {
	var l [][]api.CoolFault
	for _, set := range allFaults(t) {
		if !explainsByHand(t, x, m, set) {
			continue
		}
		if l != nil && len(set) < len(l[0]) {
			l = nil
		}
		if l == nil || len(set) == len(l[0]) {
			l = append(l, set)
		}
	}
	slices.SortFunc(l, func(a, b []api.CoolFault) int { return slices.CompareFunc(a, b, compareFaults) })
	return l
}

// The functions 'random' return valid values, among them those at the limits.

// randomFrom is a number from lo to hi, often one of both.
func randomFrom(rnd *rand.Rand, lo, hi int) int {
	switch rnd.Intn(8) {
	case 0:
		return lo
	case 1:
		return hi
	}
	return lo + rnd.Intn(hi-lo+1)
}

func randomEnds(rnd *rand.Rand, lo, hi int) api.Range {
	a, b := randomFrom(rnd, lo, hi), randomFrom(rnd, lo, hi)
	return ends(min(a, b), max(a, b))
}

func randomWithin(rnd *rand.Rand, r api.Range) int {
	return randomFrom(rnd, r.Lo, r.Hi)
}

// randomTable has delays up to a greatest one.
func randomTable(rnd *rand.Rand, banks, delay int) api.CoolTable {
	t := table(randomFrom(rnd, 0, []int{400, api.MaxCoolDegrees}[rnd.Intn(2)]), randomFrom(rnd, 0, api.MaxCoolAir))
	for range randomFrom(rnd, 1, banks) {
		b := api.CoolBank{Rate: randomEnds(rnd, 0, api.CoolPart), Delay: randomFrom(rnd, 0, delay)}
		if rnd.Intn(2) == 0 {
			b.Rate.Hi = b.Rate.Lo + rnd.Intn(min(50, api.CoolPart-b.Rate.Lo)+1)
		}
		t.Banks = append(t.Banks, b)
	}
	return t
}

// randomStrip has targets most of which a set of the table reaches, or nearly does.
func randomStrip(rnd *rand.Rand, t api.CoolTable, segments int) api.CoolStrip {
	var x api.CoolStrip
	for i := range randomFrom(rnd, 1, segments) {
		entry := randomEnds(rnd, 0, api.MaxCoolDegrees)
		if rnd.Intn(3) > 0 {
			entry.Hi = min(entry.Lo+rnd.Intn(100), api.MaxCoolDegrees)
		}
		target := randomEnds(rnd, 0, api.MaxCoolDegrees)
		if rnd.Intn(4) > 0 {
			exit := exitByHand(t, randomAvailable(rnd, t, i), entry)
			lo := max(exit.Lo+randomFrom(rnd, -500, 1), 0)
			hi := min(exit.Hi+randomFrom(rnd, -1, 500), api.MaxCoolDegrees)
			target = ends(min(lo, max(hi, 0)), min(max(lo, hi), api.MaxCoolDegrees))
		}
		x.Entries, x.Targets = append(x.Entries, entry), append(x.Targets, target)
	}
	return x
}

func randomSet(rnd *rand.Rand, t api.CoolTable) int {
	l := allSets(t)
	return l[rnd.Intn(len(l))]
}

// randomAvailable is a set of available banks for a segment.
func randomAvailable(rnd *rand.Rand, t api.CoolTable, segment int) int {
	return setOf(slices.DeleteFunc(banksOf(randomSet(rnd, t)), func(b int) bool {
		return !isAvailableByHand(t, setOf(numbers(b)), segment)
	}))
}

func randomAvailableSets(rnd *rand.Rand, t api.CoolTable, n int) []int {
	var sets []int
	for i := range n {
		sets = append(sets, randomAvailable(rnd, t, i))
	}
	return sets
}

func randomSets(rnd *rand.Rand, t api.CoolTable, n int) []int {
	var sets []int
	for range n {
		sets = append(sets, randomSet(rnd, t))
	}
	return sets
}

func randomPrices(rnd *rand.Rand) api.CoolPrices {
	most := []int{3, api.MaxCoolPrice}[rnd.Intn(2)]
	return prices(randomFrom(rnd, 0, most), randomFrom(rnd, 0, most))
}

func randomPlan(rnd *rand.Rand, t api.CoolTable) api.CoolPlan {
	var p api.CoolPlan
	for range t.Banks {
		var l []api.Range
		for next := rnd.Intn(4); next <= api.MaxCoolTick && rnd.Intn(6) > 0; {
			r := ends(next, min(next+rnd.Intn(3), api.MaxCoolTick))
			l, next = append(l, r), r.Hi+2+rnd.Intn(3)
		}
		p.Commands = append(p.Commands, l)
	}
	return p
}

func randomFaults(rnd *rand.Rand, t api.CoolTable) []api.CoolFault {
	l := allFaults(t)
	return l[rnd.Intn(len(l))]
}

// sharpTable has four banks with exact rates, which the temperatures tell from each
// other.
func sharpTable(rnd *rand.Rand) api.CoolTable {
	x := table(0, 0)
	for range api.MaxCoolBanks {
		rate := 100 + rnd.Intn(500)
		x.Banks = append(x.Banks, bank(rate, rate, rnd.Intn(api.MaxCoolDelay+1)))
	}
	return x
}

// randomMeasured is what a strip has with some faults.
func randomMeasured(rnd *rand.Rand, t api.CoolTable, x api.CoolStrip) api.CoolMeasured {
	m, broken := measured(randomSets(rnd, t, len(x.Entries)), nil), randomFaults(rnd, t)
	for i, set := range withFaultsByHand(m.Sets, broken) {
		m.Exits = append(m.Exits, exitByHand(t, set, x.Entries[i]))
	}
	return m
}
