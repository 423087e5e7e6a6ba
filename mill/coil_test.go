package mill_test

import (
	"fmt"
	"math/rand"
	"strings"
	"testing"

	"cobble/api"
	"cobble/mill"
	"cobble/model"
	"cobble/trace"
)

func TestP10_2Coils(t *testing.T) {
	p := examplePlant()
	wantRefused(t, p, nil, api.ErrState, "tom coil c1 ", "tom coil c1 s1;500*30")
	wantRefused(t, p, nil, api.ErrName, "tom coil 1 ")
	l := logOf(t, p, threadedLog(t, p, 2), "tom leave")
	wantRefused(t, p, l, api.ErrState, "tom "+coilText)
	l = logOf(t, p, l, "tom leave", "ola slab s2 1 200000 1250 1000")
	for text, want := range map[string]api.Errno{
		"1 s1;1000*30": api.ErrName, "c1 s1": api.ErrSyntax, "c1 ": api.ErrSyntax, "c1 1;1000*30": api.ErrName, "c1 s1;1000*0": api.ErrRange, "c1 s2;1000*30": api.ErrClash, "c1 s1;999*30": api.ErrClash, "c1 s1;1001*30": api.ErrClash,
		"c1 s1;500*30,501*30": api.ErrClash, "c1 s1;1000*30;p 1,2": api.ErrShape, "c1 s1;1000*30;c 0 1001": api.ErrMissing, "c1 s1;1000*30;c 1 1": api.ErrOrder, "c1 s1;999*30;p 0": api.ErrRange,
		"c1 s1;1*1,1*1,1*1,1*1,1*1,994*1,1*1": api.ErrLarge, "c1 s1;1000*1": api.OK, "s1 s1;1*1,1*1,1*1,1*1,1*1,995*1": api.OK, "c1 s1;400*30,600*7;p 30,7;c 5 900": api.OK,
	} {
		_, e := mill.Appended(p, l, said(len(l), "tom coil "+text))
		wantSame(t, text, 0, e, 0, want)
	}
	l = logOf(t, p, l, "tom coil c1 s1;400*30,600*7;p 30,7;c 5 900")
	s := stateOf(t, p, l)
	wantSame(t, "the line", s.Line, api.OK, api.MillLine{Running: []bool{true, true}, Raised: []bool{false}, Rounds: []int{2000, 2000}}, api.OK)
	wantSame(t, "the slab", s.Slabs[0].Place, api.OK, api.MillCoiled, api.OK)
	course := api.TraceCourse{Slab: "s1", Lengths: []int{400, 600}, Areas: []int{30, 7}, Steps: []api.TraceStep{{Kind: api.TracePass, Areas: []int{30, 7}}, {Kind: api.TraceCut, From: 5, To: 900}}}
	wantSame(t, "the coil", s.Coils, api.OK, []api.MillCoil{{Name: "c1", Slab: "s1", Course: course}}, api.OK)
	wantRefused(t, p, l, api.ErrExists, "tom coil c1 ")
	wantRefused(t, p, l, api.ErrState, "tom coil c2 ")
	l = logOf(t, p, l, "ola assign s2 o1", "tom charge s2", "tom draw s2")
	wantRefused(t, p, l, api.ErrState, "tom coil c2 s2;1000*30")
	l = logOf(t, p, l, "tom thread", "tom thread", "tom leave", "tom leave")
	wantRefused(t, p, l, api.ErrExists, "tom coil c1 s2;1000*30")
	wantRefused(t, p, l, api.ErrClash, "tom coil c2 s1;1000*30")
	s = stateOf(t, p, logOf(t, p, l, "tom coil c2 s2;1000*30"))
	wantSame(t, "the second coil", s.Coils[1], api.OK, api.MillCoil{Name: "c2", Slab: "s2", Course: api.TraceCourse{Slab: "s2", Lengths: []int{1000}, Areas: []int{30}}}, api.OK)
}

// TestP10_2AnyCourse has a course that is not that of the order's schedule.
func TestP10_2AnyCourse(t *testing.T) {
	p := examplePlant()
	logOf(t, p, leftLog(t, p), "tom coil c1 s1;1000*5;p 6;p 7;p 8;c 1 2")
}

func TestP10_2Readings(t *testing.T) {
	p := examplePlant()
	l := coiledLog(t, p)
	for text, want := range map[string]api.Errno{
		"c2 1 300 maybe": api.ErrMissing, "c1 9 300 maybe": api.ErrSyntax, "c1 1 300 Yes": api.ErrSyntax, "c1 2 9999 yes": api.ErrRange, "c1 1 3001 yes": api.ErrMissing, "c1 0 1001 no": api.ErrMissing,
		"c1 1 3000 yes": api.OK, "c1 0 1000 no": api.OK, "c1 0 0 yes": api.OK,
	} {
		_, e := mill.Appended(p, l, said(len(l), "tom read "+text))
		wantSame(t, text, 0, e, 0, want)
	}
	var want []api.TraceReading
	for i := range 10 {
		l = logOf(t, p, l, fmt.Sprintf("tom read c1 1 %d %s", 300*i, []string{"yes", "no"}[i%2]))
		want = append(want, api.TraceReading{Step: 1, At: 300 * i, Present: i%2 == 0})
		wantSame(t, "Readings", stateOf(t, p, l).Coils[0].Readings, api.OK, want, api.OK)
	}
	wantRefused(t, p, l, api.ErrLarge, "tom read c1 1 0 yes", "tom read c1 2 0 yes")
	wantRefused(t, p, l, api.ErrSyntax, "tom read c1 1 0 si")
}

// TestP10_2LargeReport has readings at positions whose reports are too large.
func TestP10_2LargeReport(t *testing.T) {
	p := examplePlant()
	l := logOf(t, p, nil, "ola "+orderText, "ola slab s1 1 200000 1250 19001", "ola assign s1 o1", "ola "+scheduleText, "tom charge s1", "tom start f1", "tom start f2", "tom draw s1",
		"tom thread", "tom thread", "tom leave", "tom leave", "tom coil c1 s1;1*1,19000*997;p 991,1000", "tom read c1 1 1008 yes")
	wantRefused(t, p, l, api.ErrLarge, "tom read c1 1 1009 yes", "tom read c1 0 1030 no")
	l = logOf(t, p, l, "tom read c1 0 1000 no")
	s, e := mill.ReportFor(p, l, "c1")
	wantSame(t, "ReportFor", s, e, "s1 18772514/991;1 1008 999915027/988027 1008 yes;0 1000 1000 987039973/991000 no", api.OK)
}

func TestP10_2Learning(t *testing.T) {
	p := examplePlant()
	wantRefused(t, p, nil, api.ErrMissing, "tom "+learnText)
	l := coiledLog(t, p)
	for text, want := range map[string]api.Errno{
		"": api.ErrSyntax, "c1 9000": api.ErrSyntax, "1 9000@120": api.ErrName, "c1": api.ErrShape, "c2": api.ErrShape, "c1 20001@1": api.ErrRange, "c1 1@100001": api.ErrRange, "c2 9000@120": api.ErrMissing,
		"c1" + strings.Repeat(" 1@1", 12): api.OK, "c1" + strings.Repeat(" 1@1", 13): api.ErrLarge,
	} {
		_, e := mill.Appended(p, l, said(len(l), "tom learn "+text))
		wantSame(t, text, 0, e, 0, want)
	}
	l = logOf(t, p, l, "tom "+learnText)
	s := stateOf(t, p, l)
	wantSame(t, "Correction", s.Correction, api.OK, api.ModelCorrection{Version: 1, At: 1}, api.OK)
	wantSame(t, "Learned", s.Coils[0].Learned, api.OK, true, api.OK)
	wantRefused(t, p, l, api.ErrDouble, "tom "+learnText, "tom learn c1 1@1")
	wantRefused(t, p, l, api.ErrShape, "tom learn c1")
}

func TestP10_2Forgetting(t *testing.T) {
	p := examplePlant()
	l := logOf(t, p, nil, "mia forget 4 3")
	for _, x := range []struct {
		text        string
		version, at int
	}{{"forget 4 0", 2, 3}, {"forget 3 900", 3, 3}, {"forget 0 1", 4, 2}, {"forget 2 5", 5, 2}, {"forget 0 900", 6, 0}, {"forget 4 2", 7, 2}, {"forget 4 900", 8, 4}} {
		l = logOf(t, p, l, "mia "+x.text)
		wantSame(t, x.text, stateOf(t, p, l).Correction, api.OK, api.ModelCorrection{Version: x.version, At: x.at}, api.OK)
	}
	wantRefused(t, p, l, api.ErrRange, "mia forget 5 0", "mia forget 4 901")
}

func TestP10_2Shipping(t *testing.T) {
	p := examplePlant()
	wantRefused(t, p, nil, api.ErrMissing, "mia ship c1")
	l := coiledLog(t, p)
	wantRefused(t, p, l, api.ErrGap, "mia ship c1")
	wantRefused(t, p, l, api.ErrMissing, "mia ship s1", "mia ship C1")
	l = logOf(t, p, l, "tom read c1 1 0 no", "mia ship c1")
	wantSame(t, "Shipped", stateOf(t, p, l).Coils[0].Shipped, api.OK, true, api.OK)
	wantRefused(t, p, l, api.ErrState, "mia ship c1")
	l = logOf(t, p, l, "tom read c1 0 0 no", "tom "+learnText)
	wantRefused(t, p, l, api.ErrState, "mia ship c1")
}

func TestP10_3CorrectionsOf(t *testing.T) {
	p := examplePlant()
	c, e := mill.CorrectionsOf(p, nil)
	wantSame(t, "CorrectionsOf", c, e, nil, api.OK)
	l := coiledLog(t, p)
	c, e = mill.CorrectionsOf(p, l)
	wantSame(t, "CorrectionsOf", c, e, nil, api.OK)
	l = logOf(t, p, l, "mia forget 2 0", "mia forget 2 1", "vic note ", "tom "+learnText, "mia forget 4 900")
	c, e = mill.CorrectionsOf(p, l)
	wantSame(t, "CorrectionsOf", c, e, []api.ModelCorrection{{Version: 1, At: 0}, {Version: 2, At: 1}, {Version: 3, At: 2}, {Version: 4, At: 4}}, api.OK)
	c, e = mill.CorrectionsOf(p, []api.MillEntry{entry(0, "mia", "forget 5 0")})
	wantSame(t, "CorrectionsOf a wrong log", c, e, nil, api.ErrRange)
}

func TestP10_4Reports(t *testing.T) {
	p := examplePlant()
	l := richLog(t)
	for coil, want := range map[string]string{"c1": "s1 3000;1 300 100 300 yes;0 700 700 2100 no", "c2": "s2 7600/3;1 50 50/3 - no"} {
		s, e := mill.ReportFor(p, l, coil)
		wantSame(t, "ReportFor "+coil, s, e, want, api.OK)
	}
	s, e := mill.ReportFor(p, coiledLog(t, p), "c1")
	wantSame(t, "ReportFor without readings", s, e, "s1 3000", api.OK)
	for coil, want := range map[string]api.Errno{"": api.ErrName, "1": api.ErrName, "c1 ": api.ErrName, "c3": api.ErrMissing, "s1": api.ErrMissing, "C1": api.ErrMissing} {
		s, e := mill.ReportFor(p, l, coil)
		wantSame(t, "ReportFor "+coil, s, e, "", want)
	}
	s, e = mill.ReportFor(p, append(l, entry(0, "tom", "thread")), "")
	wantSame(t, "ReportFor of a wrong log", s, e, "", api.ErrOrder)
	p.People = nil
	s, e = mill.ReportFor(p, append(l, entry(0, "tom", "thread")), "")
	wantSame(t, "ReportFor of a wrong plant", s, e, "", api.ErrShape)
}

func TestP10_4Causes(t *testing.T) {
	p := examplePlant()
	l := logOf(t, p, coiledLog(t, p), "tom read c1 1 300 yes", "tom read c1 0 700 no")
	far, near, roll, all := api.TraceCause{Name: "far", From: 200, To: 300}, api.TraceCause{Name: "near", From: 90, To: 100}, api.TraceCause{Name: "roll", Step: 1, From: 0, To: 10, Period: 300}, api.TraceCause{Name: "all", To: 1000}
	for _, x := range []struct {
		causes []api.TraceCause
		want   []string
		e      api.Errno
	}{
		{[]api.TraceCause{far, near}, []string{"near"}, api.OK},
		{[]api.TraceCause{roll, near}, []string{"roll"}, api.OK},
		{[]api.TraceCause{near, roll}, []string{"near"}, api.OK},
		{[]api.TraceCause{far, all}, nil, api.ErrNone},
		{nil, nil, api.ErrNone},
		{[]api.TraceCause{near, near}, nil, api.ErrExists},
		{[]api.TraceCause{{Name: "1"}}, nil, api.ErrName},
		{[]api.TraceCause{{Name: "a", Step: 2}}, nil, api.ErrRange},
		{make([]api.TraceCause, 6), nil, api.ErrLarge},
	} {
		names, e := mill.CausesFor(p, l, api.MillSearch{Coil: "c1", Causes: x.causes})
		wantSame(t, "CausesFor", names, e, x.want, x.e)
	}
	names, e := mill.CausesFor(p, logOf(t, p, l, "tom read c1 1 2400 yes"), api.MillSearch{Coil: "c1", Causes: []api.TraceCause{far, near, {Name: "end", From: 800, To: 801}}})
	wantSame(t, "CausesFor two readings", names, e, []string{"near", "end"}, api.OK)
	names, e = mill.CausesFor(p, coiledLog(t, p), api.MillSearch{Coil: "c1", Causes: []api.TraceCause{near, far}})
	wantSame(t, "CausesFor no readings", names, e, nil, api.OK)
	for coil, want := range map[string]api.Errno{"": api.ErrName, "c1 ": api.ErrName, "c2": api.ErrMissing} {
		names, e := mill.CausesFor(p, l, api.MillSearch{Coil: coil, Causes: make([]api.TraceCause, 6)})
		wantSame(t, "CausesFor "+coil, names, e, nil, want)
	}
	names, e = mill.CausesFor(p, append(l, entry(0, "tom", "thread")), api.MillSearch{})
	wantSame(t, "CausesFor of a wrong log", names, e, nil, api.ErrOrder)
}

// randomCause is a cause, which may be wrong.
func randomCause(rnd *rand.Rand) api.TraceCause {
	from := rnd.Intn(1000)
	to := from + rnd.Intn(500)
	return api.TraceCause{Name: oneOf(rnd, "a", "b", "c", "d", "e", "f", "g"), Step: rnd.Intn(2), From: from, To: to, Period: oneOf(rnd, 0, 0, to-from+1+rnd.Intn(200))}
}

// TestP10_4ByHand compares reports and causes of coils of random logs with those of the
// tables.
func TestP10_4ByHand(t *testing.T) {
	rnd := rand.New(rand.NewSource(104))
	p := longPlant()
	seen := map[api.Errno]int{}
	for range 600 {
		h := randomHand(rnd, 300, nil)
		for _, coil := range []string{"c1", "c2", "c3"} {
			wrong := unless(has(h.coils, coil), api.ErrMissing)
			want := ""
			if wrong == api.OK {
				want, wrong = trace.ReportOf(h.course[coil], h.readings[coil])
			}
			s, e := mill.ReportFor(p, h.log, coil)
			wantSame(t, "ReportFor", s, e, want, wrong)
			if wrong == api.OK {
				search := api.MillSearch{Coil: coil, Causes: []api.TraceCause{randomCause(rnd), randomCause(rnd), randomCause(rnd), randomCause(rnd)}[:1+rnd.Intn(4)]}
				sets, wrong := trace.Explanations(h.course[coil], search.Causes, h.readings[coil])
				var names []string
				if wrong == api.OK {
					for _, i := range sets[0] {
						names = append(names, search.Causes[i].Name)
					}
				}
				got, e := mill.CausesFor(p, h.log, search)
				wantSame(t, "CausesFor", got, e, names, wrong)
				seen[wrong]++
			}
		}
	}
	wantSeen(t, seen, 5, api.OK, api.ErrNone, api.ErrExists, api.ErrRange)
}

// TestP10_11NeverWorse looks at the versions, and at the losses for the coils that are
// learned from, in random logs.
func TestP10_11NeverWorse(t *testing.T) {
	rnd := rand.New(rand.NewSource(1011))
	p := longPlant()
	rules, _ := model.ParseRules(p.Model)
	seen := map[string]int{}
	for range 200 {
		l := randomHand(rnd, 400, nil).log
		corrections, e := mill.CorrectionsOf(p, l)
		if e != api.OK {
			t.Fatal(e)
		}
		for i, c := range corrections {
			wantSame(t, "Version", c.Version, api.OK, i+1, api.OK)
		}
		before := api.ModelCorrection{}
		for i, x := range l {
			after := stateOf(t, p, l[:i+1]).Correction
			text, is := strings.CutPrefix(x.Text, "learn ")
			if is {
				coil, _ := model.ParseCoil(text)
				worse, _ := model.LossOf(rules, before, coil)
				better, _ := model.LossOf(rules, after, coil)
				if better.Num*worse.Den > worse.Num*better.Den {
					t.Error(before, after, text)
				}
				seen["learned"]++
			}
			if is || strings.HasPrefix(x.Text, "forget ") {
				seen["changed"]++
				before.Version++
				before.At = after.At
			}
			wantSame(t, "Correction", after, api.OK, before, api.OK)
		}
	}
	wantSeen(t, seen, 20, "learned", "changed")
}

// TestP10_12SameReport adds everything but readings of the coil to a log, and recovers
// it from its journal.
func TestP10_12SameReport(t *testing.T) {
	rnd := rand.New(rand.NewSource(1012))
	p := longPlant()
	seen := 0
	for range 60 {
		l := randomHand(rnd, 400, nil).log
		reports := map[string]string{}
		for n := range len(l) + 1 {
			if n > 0 && strings.HasPrefix(l[n-1].Text, "read ") {
				delete(reports, strings.Split(l[n-1].Text, " ")[1])
			}
			back, _, e := mill.Recovered(p, journalOf(t, p, l[:n]))
			for _, coil := range []string{"c1", "c2", "c3"} {
				s, f := mill.ReportFor(p, l[:n], coil)
				again, g := mill.ReportFor(p, back, coil)
				wantSame(t, "recovered", again, chain(e, g), s, f)
				if before, is := reports[coil]; is {
					wantSame(t, "later", s, f, before, api.OK)
					seen++
				}
				if f == api.OK {
					reports[coil] = s
				}
			}
		}
	}
	if seen < 100 {
		t.Error("too few reports", seen)
	}
}
