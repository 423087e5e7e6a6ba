package pass_test

import (
	"math"
	"testing"

	"cobble/api"
	"cobble/pass"
)

// TestP3_1RulesLimits sets one number of valid rules at a time.
func TestP3_1RulesLimits(t *testing.T) {
	type set = func(r *api.PassRules, n int)
	width := func(r *api.PassRules, n int) { r.Width = n }
	start := func(r *api.PassRules, n int) { r.Start = n }
	finish := func(r *api.PassRules, n int) { r.Finish = n }
	cold := func(r *api.PassRules, n int) { r.Heat.Lo = n }
	hot := func(r *api.PassRules, n int) { r.Heat.Hi = n }
	coldest := func(r *api.PassRules, n int) { r.Coldest = n }
	soft := func(r *api.PassRules, n int) { r.Stress.Lo = n }
	hard := func(r *api.PassRules, n int) { r.Stress.Hi = n }
	smooth := func(r *api.PassRules, n int) { r.Friction.Lo = n }
	rough := func(r *api.PassRules, n int) { r.Friction.Hi = n }
	for i, x := range []struct {
		set  set
		n    int
		want api.Errno
	}{
		{width, 0, api.ErrRange}, {width, 1, api.OK}, {width, 2500, api.OK}, {width, 2501, api.ErrRange}, {width, math.MinInt, api.ErrRange},
		{start, 0, api.ErrRange}, {start, 59, api.ErrOrder}, {start, 60, api.OK}, {start, 1000, api.OK}, {start, 1001, api.ErrRange}, {start, math.MaxInt, api.ErrRange},
		{finish, 0, api.ErrRange}, {finish, 1, api.OK}, {finish, 100, api.OK}, {finish, 101, api.ErrOrder}, {finish, 1000, api.ErrOrder}, {finish, 1001, api.ErrRange},
		{cold, -1, api.ErrRange}, {cold, 0, api.OK}, {cold, 10001, api.ErrOrder}, {cold, 20000, api.ErrOrder}, {cold, 20001, api.ErrRange},
		{hot, -1, api.ErrRange}, {hot, 9999, api.ErrOrder}, {hot, 20000, api.OK}, {hot, 20001, api.ErrRange},
		{coldest, -1, api.ErrRange}, {coldest, 0, api.OK}, {coldest, 20000, api.OK}, {coldest, 20001, api.ErrRange},
		{soft, 0, api.ErrRange}, {soft, 1, api.OK}, {soft, 3, api.OK}, {soft, 4, api.ErrOrder}, {soft, 101, api.ErrRange},
		{hard, 0, api.ErrRange}, {hard, 1, api.ErrOrder}, {hard, 2, api.OK}, {hard, 100, api.OK}, {hard, 101, api.ErrRange},
		{smooth, -1, api.ErrRange}, {smooth, 0, api.OK}, {smooth, 8, api.OK}, {smooth, 9, api.ErrOrder}, {smooth, 101, api.ErrRange},
		{rough, -1, api.ErrRange}, {rough, 6, api.ErrOrder}, {rough, 7, api.OK}, {rough, 100, api.OK}, {rough, 101, api.ErrRange},
	} {
		r := exampleRules()
		x.set(&r, x.n)
		if at, e := pass.CheckRules(r); at != 0 || e != x.want {
			t.Error(i, r, at, e)
		}
	}
}

// TestP3_1StandLimits sets one number of one stand at a time.
func TestP3_1StandLimits(t *testing.T) {
	radius := func(s *api.PassStand, n int) { s.Radius = n }
	force := func(s *api.PassStand, n int) { s.Force = n }
	torque := func(s *api.PassStand, n int) { s.Torque = n }
	least := func(s *api.PassStand, n int) { s.Loss.Lo = n }
	most := func(s *api.PassStand, n int) { s.Loss.Hi = n }
	for i, x := range []struct {
		set  func(s *api.PassStand, n int)
		n    int
		want api.Errno
	}{
		{radius, 0, api.ErrRange}, {radius, 1, api.OK}, {radius, 1000, api.OK}, {radius, 1001, api.ErrRange}, {radius, math.MinInt, api.ErrRange},
		{force, -1, api.ErrRange}, {force, 0, api.OK}, {force, 1000000000000, api.OK}, {force, 1000000000001, api.ErrRange}, {force, math.MaxInt, api.ErrRange},
		{torque, -1, api.ErrRange}, {torque, 0, api.OK}, {torque, 1000000000000, api.OK}, {torque, 1000000000001, api.ErrRange},
		{least, -1, api.ErrRange}, {least, 0, api.OK}, {least, 100, api.OK}, {least, 101, api.ErrOrder}, {least, 1001, api.ErrRange},
		{most, -1, api.ErrRange}, {most, 9, api.ErrOrder}, {most, 10, api.OK}, {most, 1000, api.OK}, {most, 1001, api.ErrRange},
	} {
		for at := range 6 {
			r := freeRules(100, 60, 6)
			r.Stands[at].Loss = ends(10, 100)
			x.set(&r.Stands[at], x.n)
			want := at
			if x.want == api.OK {
				want = 0
			}
			if got, e := pass.CheckRules(r); got != want || e != x.want {
				t.Error(i, at, got, e)
			}
		}
	}
}

func TestP3_1RulesErrorsInTheirOrder(t *testing.T) {
	r := api.PassRules{Start: 60, Finish: 100, Heat: ends(2, 1), Coldest: -1, Stress: ends(3, 0), Friction: ends(9, 101)}
	wantErrors(t, func() api.Errno { _, e := pass.CheckRules(r); return e },
		step{api.ErrRange, func() { r.Width = 1 }},
		step{api.ErrRange, func() { r.Coldest = 0 }},
		step{api.ErrRange, func() { r.Stress.Hi = 2 }},
		step{api.ErrRange, func() { r.Friction.Hi = 8 }},
		step{api.ErrOrder, func() { r.Finish = 60 }},
		step{api.ErrOrder, func() { r.Heat.Hi = 2 }},
		step{api.ErrOrder, func() { r.Stress.Hi = 3 }},
		step{api.ErrOrder, func() { r.Friction.Hi = 9 }},
		step{api.ErrShape, func() { r.Stands = make([]api.PassStand, 7) }},
		step{api.ErrLarge, func() { r.Stands = make([]api.PassStand, 6) }},
		step{api.ErrRange, func() { r.Stands = []api.PassStand{stand(1, 0, 0, 2, 1), stand(0, 0, 0, 0, 0)} }},
		step{api.ErrOrder, func() { r.Stands[0].Loss.Hi = 1001 }},
		step{api.ErrRange, func() { r.Stands[0].Loss.Hi = 2 }},
		step{api.ErrRange, func() { r.Stands[1].Radius = 1 }})
}

// TestP3_1RulesIndexes has faults in two stands, of which the first one is named.
func TestP3_1RulesIndexes(t *testing.T) {
	r := freeRules(100, 60, 6)
	r.Stands[2].Loss, r.Stands[4].Radius = ends(2, 1), 0
	if at, e := pass.CheckRules(r); at != 2 || e != api.ErrOrder {
		t.Error(at, e)
	}
	r.Stands[2].Loss = ends(1, 2)
	if at, e := pass.CheckRules(r); at != 4 || e != api.ErrRange {
		t.Error(at, e)
	}
	r.Stands[4].Loss = ends(2, 1)
	if at, e := pass.CheckRules(r); at != 4 || e != api.ErrRange {
		t.Error(at, e)
	}
	r.Width = 0
	if at, e := pass.CheckRules(r); at != 0 || e != api.ErrRange {
		t.Error(at, e)
	}
	if at, e := pass.CheckRules(freeRules(100, 60, 7)); at != 0 || e != api.ErrLarge {
		t.Error(at, e)
	}
	for stands := range 6 {
		if at, e := pass.CheckRules(freeRules(1, 1, stands+1)); at != 0 || e != api.OK {
			t.Error(stands, at, e)
		}
	}
}

// nameCases are strings, and whether they are names.
func nameCases() map[string]bool {
	return map[string]bool{
		"": false, "a": true, "Z": true, "abcdefghijkl": true, "abcdefghijklm": false, "1a": false, "-a": false, "a1": true, "z-": true, "A9": true,
		"a_b": false, "\u00e9": false, "a\u00e9": false, "a\xff": false, "a\n": false, "[": false, "@": false, "`": false, "{": false, "a/": false, "a:": false, "a0": true,
	}
}

func TestP3_1ScheduleNames(t *testing.T) {
	for name, is := range nameCases() {
		s := exampleSchedule()
		s.Name = name
		if at, e := pass.CheckSchedule(exampleRules(), s); at != 0 || (e == api.OK) != is || (e == api.ErrName) == is {
			t.Errorf("%q: %d %v", name, at, e)
		}
	}
	s := exampleSchedule()
	s.Name = "a b"
	if _, e := pass.CheckSchedule(exampleRules(), s); e != api.ErrName {
		t.Error(e)
	}
}

func TestP3_1CheckSchedule(t *testing.T) {
	two, four := exampleRules(), freeRules(1000, 1, 4)
	for i, x := range []struct {
		r    api.PassRules
		l    []int
		at   int
		want api.Errno
	}{
		{two, []int{80, 60}, 0, api.OK}, {two, []int{100, 60}, 0, api.OK}, {two, []int{60, 60}, 0, api.OK}, {two, []int{61, 60}, 0, api.OK},
		{two, nil, 0, api.ErrShape}, {two, []int{60}, 0, api.ErrShape}, {two, []int{80, 70, 60}, 0, api.ErrShape}, {two, []int{0}, 0, api.ErrShape},
		{two, []int{101, 60}, 0, api.ErrOrder}, {two, []int{1000, 60}, 0, api.ErrOrder}, {two, []int{1001, 60}, 0, api.ErrRange}, {two, []int{0, 60}, 0, api.ErrRange}, {two, []int{-5, 60}, 0, api.ErrRange},
		{two, []int{59, 60}, 1, api.ErrOrder}, {two, []int{80, 81}, 1, api.ErrOrder}, {two, []int{80, 0}, 1, api.ErrRange}, {two, []int{80, 1001}, 1, api.ErrRange}, {two, []int{101, 0}, 0, api.ErrOrder},
		{two, []int{80, 61}, 1, api.ErrGap}, {two, []int{80, 59}, 1, api.ErrGap}, {two, []int{59, 59}, 1, api.ErrGap}, {two, []int{100, 100}, 1, api.ErrGap}, {two, []int{80, math.MinInt}, 1, api.ErrRange},
		{four, []int{1000, 999, 2, 1}, 0, api.OK}, {four, []int{1, 1, 1, 1}, 0, api.OK}, {four, []int{1000, 1000, 1000, 1}, 0, api.OK}, {four, []int{9, 8, 7, 6}, 3, api.ErrGap},
		{four, []int{9, 8, 9, 1}, 2, api.ErrOrder}, {four, []int{9, 8, 1002, 1003}, 2, api.ErrRange}, {four, []int{9, 10, 0, 1}, 1, api.ErrOrder}, {four, []int{9, 8, 7, 8}, 3, api.ErrOrder}, {four, []int{9, 8, 7, 0}, 3, api.ErrRange},
	} {
		if at, e := pass.CheckSchedule(x.r, schedule(x.l...)); at != x.at || e != x.want {
			t.Error(i, x.l, at, e)
		}
	}
}

func TestP3_1ScheduleErrorsInTheirOrder(t *testing.T) {
	r := exampleRules()
	r.Stands[1].Radius = 0
	s := api.PassSchedule{Name: "-", Thicknesses: []int{0}}
	if at, e := pass.CheckSchedule(r, s); at != 0 || e != api.ErrRange {
		t.Error("the error of the rules has no index", at, e)
	}
	wantErrors(t, func() api.Errno { _, e := pass.CheckSchedule(r, s); return e },
		step{api.ErrRange, func() { r.Stands[1].Loss = ends(2, 1); r.Stands[1].Radius = 1 }},
		step{api.ErrOrder, func() { r.Stands[1].Loss = ends(1, 2) }},
		step{api.ErrName, func() { s.Name = "a" }},
		step{api.ErrShape, func() { s.Thicknesses = []int{0, 0} }},
		step{api.ErrRange, func() { s.Thicknesses = []int{101, 0} }},
		step{api.ErrOrder, func() { s.Thicknesses = []int{80, 1001} }},
		step{api.ErrRange, func() { s.Thicknesses = []int{80, 90} }},
		step{api.ErrOrder, func() { s.Thicknesses = []int{80, 70} }},
		step{api.ErrGap, func() { s.Thicknesses = []int{80, 60} }})
}

func TestP3_5CheckMaterial(t *testing.T) {
	r := exampleRules()
	r.Heat, r.Stands[0].Loss, r.Stands[1].Loss = ends(9000, 9100), ends(10, 20), ends(30, 40)
	for i, x := range []struct {
		m    api.PassMaterial
		at   int
		want api.Errno
	}{
		{material(2, 7, 9000, 10, 30), 0, api.OK}, {material(3, 8, 9100, 20, 40), 0, api.OK},
		{material(1, 7, 9000, 10, 30), 0, api.ErrRange}, {material(4, 7, 9000, 10, 30), 0, api.ErrRange},
		{material(2, 6, 9000, 10, 30), 0, api.ErrRange}, {material(2, 9, 9000, 10, 30), 0, api.ErrRange},
		{material(2, 7, 8999, 10, 30), 0, api.ErrRange}, {material(2, 7, 9101, 10, 30), 0, api.ErrRange},
		{material(2, 7, 9000), 0, api.ErrShape}, {material(2, 7, 9000, 10), 0, api.ErrShape}, {material(2, 7, 9000, 10, 30, 30), 0, api.ErrShape}, {material(2, 7, 9000, 9), 0, api.ErrShape},
		{material(2, 7, 9101, 10), 0, api.ErrRange},
		{material(2, 7, 9000, 9, 30), 0, api.ErrRange}, {material(2, 7, 9000, 21, 41), 0, api.ErrRange}, {material(2, 7, 9000, 10, 29), 1, api.ErrRange}, {material(2, 7, 9000, 20, 41), 1, api.ErrRange},
		{material(math.MinInt, 7, 9000, 10, 30), 0, api.ErrRange}, {material(2, 7, 9000, 10, math.MaxInt), 1, api.ErrRange},
	} {
		if at, e := pass.CheckMaterial(r, x.m); at != x.at || e != x.want {
			t.Error(i, x.m, at, e)
		}
	}
	r.Stands[1].Loss = ends(40, 30)
	if at, e := pass.CheckMaterial(r, material(1, 7, 9000, 10, 30)); at != 0 || e != api.ErrOrder {
		t.Error("the error of the rules has no index, and comes first", at, e)
	}
}
