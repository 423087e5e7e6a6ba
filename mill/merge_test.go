package mill_test

import (
	"math/rand"
	"slices"
	"testing"

	"cobble/api"
	"cobble/mill"
)

func TestP10_6Merging(t *testing.T) {
	p := examplePlant()
	one, two, three := entry(1, "tom", "start f1"), entry(2, "tom", "start f2"), entry(3, "tom", "note x")
	early, stop, late := entry(1, "tom", "start f2"), entry(2, "tom", "stop f1"), entry(9, "tom", "note y")
	log := func(l ...api.MillEntry) []api.MillEntry { return l }
	for _, x := range []struct {
		a, b, want []api.MillEntry
		refused    []int
	}{
		{nil, nil, nil, nil},
		{log(one), nil, log(one), nil},
		{nil, log(one), log(one), nil},
		{log(one, two), log(one, two), log(one, two), nil},
		{log(one), log(one, two, three), log(one, two, three), nil},
		{log(one, two, three), log(one), log(one, two, three), nil},
		{log(one, two), log(one, three), log(one, two, three), nil},
		{log(one, two), log(one, stop), log(one, two, stop), nil},
		{log(one, two), log(one, stop, two), log(one, two, stop), []int{2}},
		{log(one), log(early, one), log(one, early), []int{1}},
		{log(two), log(one, stop, two), log(two), []int{0, 1, 2}},
		{log(one, late), log(one, two, three), log(one, late), []int{1, 2}},
		{log(one, late), log(one, two, late), log(one, late, late), []int{1}},
		{log(three), log(three, three, three), log(three, three, three), nil},
		{log(three, three, late), log(three, late, late), log(three, three, late, late, late), nil},
		{log(one, two), log(entry(1, "mia", "start f1"), two, three), log(one, two, three), []int{0, 1}},
		{log(one, two), log(entry(2, "tom", "start f1"), two, three), log(one, two, three), []int{0, 1}},
	} {
		m, refused, e := mill.Merged(p, x.a, x.b)
		wantSame(t, "Merged", m, e, x.want, api.OK)
		wantSame(t, "refused", refused, e, x.refused, api.OK)
	}
}

func TestP10_6FullLogs(t *testing.T) {
	p := examplePlant()
	a, b := slices.Repeat([]api.MillEntry{entry(1, "tom", "note a")}, 58), slices.Repeat([]api.MillEntry{entry(1, "tom", "note b")}, 60)
	b[1] = entry(1, "tom", "start f1")
	m, refused, e := mill.Merged(p, a, b)
	wantSame(t, "Merged", m, e, append(slices.Clone(a), b[:2]...), api.OK)
	if len(refused) != 58 || refused[0] != 2 || refused[57] != 59 {
		t.Error(refused)
	}
}

func TestP10_6MergingErrors(t *testing.T) {
	p, a, b := examplePlant(), []api.MillEntry{entry(0, "tom", "thread")}, []api.MillEntry{entry(0, "eve", "thread")}
	p.People[0].Name = "1"
	wantErrors(t, func() (int, api.Errno) {
		m, refused, e := mill.Merged(p, a, b)
		if e != api.OK && (len(m) > 0 || len(refused) > 0) {
			t.Error(m, refused, e)
		}
		return 0, e
	},
		step{0, api.ErrName, func() { p = examplePlant() }},
		step{0, api.ErrState, func() { a[0].Text = "start f1" }},
		step{0, api.ErrMissing, func() { b[0].By = "tom" }},
		step{0, api.ErrState, func() { b = slices.Repeat([]api.MillEntry{entry(0, "tom", "note x")}, 61) }},
		step{0, api.ErrLarge, func() { b = b[:60] }},
	)
}

// TestP10_15ByHand merges random logs with a common beginning.
func TestP10_15ByHand(t *testing.T) {
	rnd := rand.New(rand.NewSource(1015))
	p := longPlant()
	seen := map[string]int{}
	for range 300 {
		h := newHand(p)
		for range rnd.Intn(60) {
			h.enter(h.randomEntry(rnd))
		}
		a := slices.Clone(h.log)
		common := rnd.Intn(len(a) + 1)
		h = newHand(p)
		for _, e := range a[:common] {
			h.enter(e)
		}
		for range rnd.Intn(100) {
			h.enter(h.randomEntry(rnd))
		}
		b := slices.Clone(h.log)
		for common < len(a) && common < len(b) && a[common] == b[common] {
			common++
		}
		merged := newHand(p)
		for _, e := range a {
			merged.enter(e)
		}
		var want []int
		for i := common; i < len(b); i++ {
			if merged.enter(b[i]) != api.OK {
				want = append(want, i)
				seen["refused"]++
			} else {
				seen["accepted"]++
			}
		}
		m, refused, e := mill.Merged(p, a, b)
		wantSame(t, "Merged", m, e, merged.log, api.OK)
		wantSame(t, "refused", refused, e, want, api.OK)
		if len(m) < len(a) || !slices.Equal(m[:len(a)], a) {
			t.Error("it does not begin with a", m, a)
		}
		i, e := mill.CheckLog(p, m)
		wantSame(t, "CheckLog", i, e, 0, api.OK)
	}
	wantSeen(t, seen, 100, "refused", "accepted")
}

func TestP10_15Beginnings(t *testing.T) {
	rnd := rand.New(rand.NewSource(10150))
	p := longPlant()
	for range 60 {
		l := randomHand(rnd, 200, nil).log
		n := rnd.Intn(len(l) + 1)
		for _, logs := range [][2][]api.MillEntry{{l, l[:n]}, {l[:n], l}, {l, l}} {
			m, refused, e := mill.Merged(p, logs[0], logs[1])
			wantSame(t, "Merged", m, e, l, api.OK)
			wantSame(t, "refused", refused, e, nil, api.OK)
		}
	}
}
