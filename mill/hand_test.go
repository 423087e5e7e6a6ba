package mill_test

import (
	"fmt"
	"math/rand"
	"regexp"
	"slices"
	"strconv"
	"strings"

	"cobble/api"
	"cobble/campaign"
	"cobble/model"
	"cobble/pass"
	"cobble/trace"
)

// hand is the state of a mill as the chapter's table says, with names and maps in place
// of indexes and slices.
type hand struct {
	p             api.MillPlant
	passes        api.PassRules
	grade         api.ModelRules
	log           []api.MillEntry
	orders        []string
	order         map[string]api.CampaignOrder
	schedule      map[string]*api.PassSchedule
	slabs         []string
	slab          map[string]api.CampaignSlab
	assigned      map[string]string
	place         map[string]string
	strip         string
	entered, left []string
	running       map[string]bool
	raised        map[string]bool
	rounds        map[string]int
	cobble        string
	coils         []string
	slabOf        map[string]string
	course        map[string]api.TraceCourse
	readings      map[string][]api.TraceReading
	learned       map[string]bool
	shipped       map[string]bool
	correction    api.ModelCorrection
	corrections   []api.ModelCorrection
}

func newHand(p api.MillPlant) *hand {
	h := &hand{
		p: p, order: map[string]api.CampaignOrder{}, schedule: map[string]*api.PassSchedule{}, slab: map[string]api.CampaignSlab{},
		assigned: map[string]string{}, place: map[string]string{}, running: map[string]bool{}, raised: map[string]bool{}, rounds: map[string]int{},
		slabOf: map[string]string{}, course: map[string]api.TraceCourse{}, readings: map[string][]api.TraceReading{},
		learned: map[string]bool{}, shipped: map[string]bool{},
	}
	h.passes, _ = pass.ParseRules(p.Passes)
	h.grade, _ = model.ParseRules(p.Model)
	for _, stand := range p.Stands {
		h.rounds[stand] = 2000
	}
	return h
}

const anyWord, anyNumber, anyRest = " ([^ ]+)", " (0|[1-9][0-9]{0,6})", " (.*)"

// handKind is what the table says of a kind of texts: the form, the role, and what it
// does.
type handKind struct {
	form string
	role int
	act  func(h *hand, m []string) api.Errno
}

var handKinds = map[string]handKind{
	"note":     {anyRest, api.MillViewer, func(h *hand, m []string) api.Errno { return api.OK }},
	"order":    {anyRest, api.MillPlanner, (*hand).addOrder},
	"slab":     {anyRest, api.MillPlanner, (*hand).addSlab},
	"assign":   {anyWord + anyWord, api.MillPlanner, (*hand).assign},
	"schedule": {anyWord + anyRest, api.MillPlanner, (*hand).plan},
	"charge":   {anyWord, api.MillOperator, (*hand).charge},
	"draw":     {anyWord, api.MillOperator, (*hand).draw},
	"start":    {anyWord, api.MillOperator, (*hand).start},
	"stop":     {anyWord, api.MillOperator, (*hand).stop},
	"thread":   {"", api.MillOperator, (*hand).thread},
	"raise":    {anyWord, api.MillOperator, (*hand).raise},
	"lower":    {anyWord, api.MillOperator, (*hand).lower},
	"leave":    {"", api.MillOperator, (*hand).leave},
	"cobble":   {anyWord, api.MillOperator, (*hand).cobbleAt},
	"clear":    {"", api.MillOperator, (*hand).clearAll},
	"rolls":    {anyWord + anyNumber, api.MillOperator, (*hand).change},
	"coil":     {anyWord + anyRest, api.MillOperator, (*hand).coil},
	"read":     {anyWord + anyNumber + anyNumber + anyWord, api.MillOperator, (*hand).read},
	"learn":    {anyRest, api.MillOperator, (*hand).learn},
	"forget":   {anyNumber + anyNumber, api.MillMaster, (*hand).forget},
	"ship":     {anyWord, api.MillMaster, (*hand).ship},
}

// unless is an error, or not.
func unless(is bool, e api.Errno) api.Errno {
	if is {
		return api.OK
	}
	return e
}

// chain returns the first error.
func chain(errors ...api.Errno) api.Errno {
	for _, e := range errors {
		if e != api.OK {
			return e
		}
	}
	return api.OK
}

func has(l []string, name string) bool {
	return slices.Contains(l, name)
}

var aName = regexp.MustCompile(`^[A-Za-z][A-Za-z0-9-]{0,11}$`)

// enter has an entry's effect, or its error.
func (h *hand) enter(e api.MillEntry) api.Errno {
	role, known := 0, false
	for _, x := range h.p.People {
		if x.Name == e.By {
			role, known = x.Role, true
		}
	}
	before := 0
	if len(h.log) > 0 {
		before = h.log[len(h.log)-1].At
	}
	word := strings.Split(e.Text, " ")[0]
	kind, is := handKinds[word]
	if f := chain(unless(len(h.log) < 60, api.ErrLarge), unless(known, api.ErrMissing), unless(e.At >= 0 && e.At <= 1000000000000, api.ErrRange), unless(e.At >= before, api.ErrOrder),
		unless(len(e.Text) <= 300, api.ErrLarge), unless(regexp.MustCompile(`^[ -~]*$`).MatchString(e.Text), api.ErrForm),
		unless(is, api.ErrSyntax), unless(role >= kind.role, api.ErrAllowed)); f != api.OK {
		return f
	}
	m := regexp.MustCompile("^" + word + kind.form + "$").FindStringSubmatch(e.Text)
	if m == nil {
		return api.ErrSyntax
	}
	f := kind.act(h, m[1:])
	if f == api.OK {
		h.log = append(h.log, e)
	}
	return f
}

func (h *hand) addOrder(m []string) api.Errno {
	o, _, e := campaign.ParseOrder(m[0])
	if e := chain(e, unless(!has(h.orders, o.Name), api.ErrExists), unless(len(h.orders) < 6, api.ErrFull)); e != api.OK {
		return e
	}
	h.orders, h.order[o.Name] = append(h.orders, o.Name), o
	return api.OK
}

func (h *hand) addSlab(m []string) api.Errno {
	s, e := campaign.ParseSlab(m[0])
	if e := chain(e, unless(!has(h.slabs, s.Name), api.ErrExists), unless(len(h.slabs) < 10, api.ErrFull)); e != api.OK {
		return e
	}
	h.slabs, h.slab[s.Name], h.place[s.Name] = append(h.slabs, s.Name), s, "yard"
	return api.OK
}

func (h *hand) assign(m []string) api.Errno {
	s, o := h.slab[m[0]], h.order[m[1]]
	suits := s.Grade == o.Grade && s.Width >= o.Width && s.Width <= o.Width+100
	e := chain(unless(has(h.slabs, m[0]), api.ErrMissing), unless(has(h.orders, m[1]), api.ErrMissing), unless(h.place[m[0]] == "yard", api.ErrState), unless(suits, api.ErrRefused))
	if e == api.OK {
		h.assigned[m[0]] = m[1]
	}
	return e
}

func (h *hand) plan(m []string) api.Errno {
	if !has(h.orders, m[0]) {
		return api.ErrMissing
	}
	s, e := pass.ParseSchedule(m[1])
	if e != api.OK {
		return e
	}
	if _, e := pass.CheckSchedule(h.passes, s); e != api.OK {
		return e
	}
	if _, e := pass.WeakestOf(h.passes, s); e != api.ErrNone {
		return api.ErrRefused
	}
	h.schedule[m[0]] = &s
	return api.OK
}

func (h *hand) charge(m []string) api.Errno {
	inside := 0
	for _, place := range h.place {
		if place == "furnace" {
			inside++
		}
	}
	e := chain(unless(has(h.slabs, m[0]), api.ErrMissing), unless(h.place[m[0]] == "yard", api.ErrState), unless(h.assigned[m[0]] != "", api.ErrGap), unless(inside < 3, api.ErrFull))
	if e == api.OK {
		h.place[m[0]] = "furnace"
	}
	return e
}

func (h *hand) draw(m []string) api.Errno {
	all := true
	for _, stand := range h.p.Stands {
		all = all && h.running[stand]
	}
	e := chain(unless(has(h.slabs, m[0]), api.ErrMissing), unless(h.place[m[0]] == "furnace", api.ErrState), unless(h.schedule[h.assigned[m[0]]] != nil, api.ErrGap), unless(h.strip == "", api.ErrBusy), unless(all, api.ErrRefused))
	if e == api.OK {
		h.place[m[0]], h.strip = "line", m[0]
	}
	return e
}

func (h *hand) loaded(stand string) bool {
	return has(h.entered, stand) && !has(h.left, stand)
}

// next is the stand behind a stand, and "" behind the last one.
func (h *hand) next(stand string) string {
	i := slices.Index(h.p.Stands, stand)
	if i < 0 || i+1 == len(h.p.Stands) {
		return ""
	}
	return h.p.Stands[i+1]
}

func (h *hand) fed(stand string) bool {
	for _, other := range h.p.Stands {
		if h.next(other) == stand && h.loaded(stand) && h.loaded(other) && h.running[other] {
			return true
		}
	}
	return false
}

func (h *hand) start(m []string) api.Errno {
	e := chain(unless(has(h.p.Stands, m[0]), api.ErrMissing), unless(!h.running[m[0]], api.ErrState), unless(h.cobble == "", api.ErrRefused))
	if e == api.OK {
		h.running[m[0]] = true
	}
	return e
}

func (h *hand) mayStop(stand string) api.Errno {
	return chain(unless(has(h.p.Stands, stand), api.ErrMissing), unless(h.running[stand], api.ErrState), unless(!(h.loaded(stand) && h.cobble == "") && !h.fed(stand), api.ErrRefused))
}

func (h *hand) stop(m []string) api.Errno {
	e := h.mayStop(m[0])
	if e == api.OK {
		delete(h.running, m[0])
	}
	return e
}

func (h *hand) thread([]string) api.Errno {
	if h.strip == "" || len(h.entered) == len(h.p.Stands) {
		return api.ErrState
	}
	stand := h.p.Stands[len(h.entered)]
	if h.cobble != "" || !h.running[stand] {
		return api.ErrRefused
	}
	h.entered = append(h.entered, stand)
	return api.OK
}

func (h *hand) raise(m []string) api.Errno {
	e := chain(unless(h.next(m[0]) != "", api.ErrMissing), unless(!h.raised[m[0]], api.ErrState), unless(h.cobble == "" && h.loaded(m[0]) && h.loaded(h.next(m[0])), api.ErrRefused))
	if e == api.OK {
		h.raised[m[0]] = true
	}
	return e
}

func (h *hand) lower(m []string) api.Errno {
	e := chain(unless(h.next(m[0]) != "", api.ErrMissing), unless(h.raised[m[0]], api.ErrState))
	if e == api.OK {
		delete(h.raised, m[0])
	}
	return e
}

func (h *hand) leave([]string) api.Errno {
	for _, stand := range h.p.Stands {
		if h.loaded(stand) {
			if h.cobble != "" || h.raised[stand] {
				return api.ErrRefused
			}
			h.left = append(h.left, stand)
			return api.OK
		}
	}
	return api.ErrState
}

func (h *hand) cobbleAt(m []string) api.Errno {
	e := chain(unless(has(h.p.Stands, m[0]), api.ErrMissing), unless(h.cobble == "", api.ErrState), unless(h.loaded(m[0]), api.ErrRefused))
	if e == api.OK {
		h.cobble, h.raised = m[0], map[string]bool{}
	}
	return e
}

// empty takes the strip out of the line.
func (h *hand) empty(place string) {
	h.place[h.strip] = place
	h.strip, h.entered, h.left, h.cobble = "", nil, nil, ""
}

func (h *hand) clearAll([]string) api.Errno {
	if h.cobble == "" {
		return api.ErrState
	}
	if len(h.stops()) > 0 {
		return api.ErrRefused
	}
	h.empty("scrapped")
	return api.OK
}

func (h *hand) change(m []string) api.Errno {
	n, _ := strconv.Atoi(m[1])
	e := chain(unless(has(h.p.Stands, m[0]), api.ErrMissing), unless(!h.running[m[0]], api.ErrState), unless(!h.loaded(m[0]), api.ErrRefused), unless(n >= 1 && n <= 1000000, api.ErrRange))
	if e == api.OK {
		h.rounds[m[0]] = n
	}
	return e
}

func (h *hand) coil(m []string) api.Errno {
	if e := chain(unless(aName.MatchString(m[0]), api.ErrName), unless(!has(h.coils, m[0]), api.ErrExists), unless(h.strip != "" && len(h.left) == len(h.p.Stands), api.ErrState)); e != api.OK {
		return e
	}
	c, e := trace.ParseCourse(m[1])
	if e != api.OK {
		return e
	}
	rest := h.slab[h.strip].Length
	for _, length := range c.Lengths {
		rest -= length
	}
	if c.Slab != h.strip || rest != 0 {
		return api.ErrClash
	}
	h.coils, h.slabOf[m[0]], h.course[m[0]] = append(h.coils, m[0]), h.strip, c
	h.empty("coiled")
	return api.OK
}

func (h *hand) read(m []string) api.Errno {
	if e := chain(unless(has(h.coils, m[0]), api.ErrMissing), unless(m[3] == "yes" || m[3] == "no", api.ErrSyntax)); e != api.OK {
		return e
	}
	reading := api.TraceReading{Present: m[3] == "yes"}
	fmt.Sscan(m[1]+" "+m[2], &reading.Step, &reading.At)
	l := append(slices.Clone(h.readings[m[0]]), reading)
	if _, e := trace.ReportOf(h.course[m[0]], l); e != api.OK {
		return e
	}
	h.readings[m[0]] = l
	return api.OK
}

// corrected has another correction, or an error.
func (h *hand) corrected(c api.ModelCorrection, e api.Errno) api.Errno {
	if e == api.OK {
		h.correction, h.corrections = c, append(h.corrections, c)
	}
	return e
}

func (h *hand) learn(m []string) api.Errno {
	c, e := model.ParseCoil(m[0])
	if e := chain(e, unless(has(h.coils, c.Name), api.ErrMissing), unless(!h.learned[c.Name], api.ErrDouble)); e != api.OK {
		return e
	}
	e = h.corrected(model.Learned(h.grade, h.correction, c))
	if e == api.OK {
		h.learned[c.Name] = true
	}
	return e
}

func (h *hand) forget(m []string) api.Errno {
	toward, _ := strconv.Atoi(m[0])
	steps, _ := strconv.Atoi(m[1])
	return h.corrected(model.Forgotten(h.grade, h.correction, toward, steps))
}

func (h *hand) ship(m []string) api.Errno {
	e := chain(unless(has(h.coils, m[0]), api.ErrMissing), unless(!h.shipped[m[0]], api.ErrState), unless(len(h.readings[m[0]]) > 0, api.ErrGap))
	if e == api.OK {
		h.shipped[m[0]] = true
	}
	return e
}

// stops are the loaded stands that run.
func (h *hand) stops() []string {
	var l []string
	for _, stand := range h.p.Stands {
		if h.loaded(stand) && h.running[stand] {
			l = append(l, stand)
		}
	}
	return l
}

// state is the state as the package writes it.
func (h *hand) state() api.MillState {
	s := api.MillState{Correction: h.correction}
	s.Line = api.MillLine{Strip: h.strip, Head: len(h.entered), Tail: len(h.left), Cobbled: h.cobble != ""}
	for i, stand := range h.p.Stands {
		s.Line.Running = append(s.Line.Running, h.running[stand])
		s.Line.Rounds = append(s.Line.Rounds, h.rounds[stand])
		if i > 0 {
			s.Line.Raised = append(s.Line.Raised, h.raised[h.p.Stands[i-1]])
		}
		if stand == h.cobble {
			s.Line.Cobble = i
		}
	}
	for _, name := range h.orders {
		x := api.MillOrder{Order: h.order[name]}
		if h.schedule[name] != nil {
			x.Planned, x.Schedule = true, *h.schedule[name]
		}
		s.Orders = append(s.Orders, x)
	}
	places := map[string]int{"yard": api.MillYard, "furnace": api.MillFurnace, "line": api.MillInLine, "coiled": api.MillCoiled, "scrapped": api.MillScrapped}
	for _, name := range h.slabs {
		s.Slabs = append(s.Slabs, api.MillSlab{Slab: h.slab[name], Order: h.assigned[name], Place: places[h.place[name]]})
	}
	for _, name := range h.coils {
		s.Coils = append(s.Coils, api.MillCoil{Name: name, Slab: h.slabOf[name], Course: h.course[name], Readings: h.readings[name], Learned: h.learned[name], Shipped: h.shipped[name]})
	}
	return s
}

// randomText is a text, most often of a form, that may fit a state.
func (h *hand) randomText(rnd *rand.Rand) string {
	order, slab := oneOf(rnd, "o1", "o2", "o3"), oneOf(rnd, "s1", "s2", "s3", "s4", "s5")
	stand, coil := oneOf(rnd, h.p.Stands...), oneOf(rnd, "c1", "c2", "c3")
	switch rnd.Intn(34) {
	case 0:
		return fmt.Sprintf("order %s grade %d thickness 3 mm width %d mm", order, 1+rnd.Intn(2), 1100+50*rnd.Intn(3))
	case 1:
		return fmt.Sprintf("slab %s %d 200000 %d %d", slab, 1+rnd.Intn(2), 1150+50*rnd.Intn(3), 1000+rnd.Intn(2)*500)
	case 2, 3:
		return "assign " + slab + " " + order
	case 4:
		return "schedule " + order + " " + oneOf(rnd, "a 80 60 60", "a 80 60 60", "a 80 60 60", "b 80 60", "c 90 75 60", "d 70 60 60", "e 82 61 60", "f 100 80 60", "g 60", "h 60 80 60", "1 80 60 60")
	case 5, 6:
		return "charge " + slab
	case 7, 8, 9:
		return "draw " + slab
	case 10, 11:
		return oneOf(rnd, "start ", "start ", "start ", "stop ") + stand
	case 12, 13, 14:
		return "thread"
	case 15, 16, 17, 18:
		return oneOf(rnd, "raise ", "raise ", "lower ") + stand
	case 19, 20, 21:
		return "leave"
	case 22:
		return "cobble " + stand
	case 23, 24:
		return oneOf(rnd, "clear", "clear", "stop "+stand)
	case 25:
		return "rolls " + stand + " " + oneOf(rnd, "0", "1", "1900", "1000000", "1000001")
	case 26, 27:
		strip := h.strip
		if strip == "" || rnd.Intn(5) == 0 {
			strip = slab
		}
		return "coil " + oneOf(rnd, coil, coil, coil, coil, "1") + " " + strip + ";" + oneOf(rnd, "1000*30", "1500*30", "500*20,500*10", "700*1,800*2") + oneOf(rnd, "", ";p 10", ";p 10,20", ";c 0 500")
	case 28, 29:
		return fmt.Sprintf("read %s %d %d %s", coil, rnd.Intn(3), rnd.Intn(1600), oneOf(rnd, "yes", "no", "no", "maybe"))
	case 30, 31:
		return "learn " + coil + " " + oneOf(rnd, "9000@120 8000@260", "10000@45", "8500@80", "9000@", "9000@100001")
	case 32:
		return "ship " + coil
	}
	return oneOf(rnd, "note", "note ", fmt.Sprintf("forget %d %d", rnd.Intn(6), rnd.Intn(3)), "pause", "thread ", " thread", "lower  f1", "", "note \x7f", "note "+strings.Repeat("x", 290+rnd.Intn(20)))
}

// randomEntry is a person's entry, who most often may make it.
func (h *hand) randomEntry(rnd *rand.Rand) api.MillEntry {
	at := 0
	if len(h.log) > 0 {
		at = h.log[len(h.log)-1].At
	}
	by := oneOf(rnd, "mia", "mia", "mia", "mia", "mia", "mia", "tom", "tom", "ola", "vic")
	if rnd.Intn(40) == 0 {
		by = "eve"
	}
	return entry(at+oneOf(rnd, 0, 0, 1, 7)-rnd.Intn(8)/7, by, h.randomText(rnd))
}

// randomStart leads to slabs in the furnace, with all stands running.
func randomStart(h *hand) {
	for _, text := range []string{
		"order o1 grade 1 thickness 3 mm width 1150 mm", "order o2 grade 2 thickness 3 mm width 1200 mm", "slab s1 1 200000 1150 1000", "slab s2 1 200000 1250 1500", "slab s3 2 200000 1200 1000",
		"assign s1 o1", "assign s2 o1", "assign s3 o2", "schedule o1 a 80 60 60", "charge s1", "charge s3", "start r3", "start a1", "start f2", "draw s1",
	} {
		if e := h.enter(entry(0, "mia", text)); e != api.OK {
			panic(text)
		}
	}
}

// randomHand is a state after a log of the long plant; each entry that is tried is
// given to tried, with its error.
func randomHand(rnd *rand.Rand, tries int, tried func(h *hand, e api.MillEntry, f api.Errno)) *hand {
	h := newHand(longPlant())
	if rnd.Intn(4) > 0 {
		randomStart(h)
	}
	for range tries {
		e := h.randomEntry(rnd)
		before := slices.Clone(h.log)
		f := h.enter(e)
		if tried != nil {
			now := h.log
			h.log = before
			tried(h, e, f)
			h.log = now
		}
	}
	return h
}
