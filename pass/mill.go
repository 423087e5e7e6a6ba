package pass

import (
	"iter"
	"slices"

	"cobble/api"
)

// parts is by how much margins are multiplied; it is a multiple of both units, so
// that no margin has a fraction then.
const parts = 100

// mill is rules that have no error.
type mill struct{ api.PassRules }

// millFor returns the errors of the rules and a schedule.
func millFor(r api.PassRules, s api.PassSchedule) (mill, api.Errno) {
	if _, e := CheckSchedule(r, s); e != api.OK {
		return mill{}, e
	}
	return mill{r}, api.OK
}

// draught is what a stand does: the index of the stand, and the thicknesses before
// and after it.
type draught struct{ stand, before, after int }

func (d draught) reduction() int {
	return d.before - d.after
}

func (d draught) isOpen() bool {
	return d.before == d.after
}

// draughtsOf yields the draughts of a schedule.
func (m mill) draughtsOf(s api.PassSchedule) iter.Seq[draught] {
	return func(yield func(draught) bool) {
		before := m.Start
		for stand, h := range s.Thicknesses {
			if !yield(draught{stand, before, h}) {
				return
			}
			before = h
		}
	}
}

// each collects what is made of each draught of a schedule.
func each[T any](m mill, s api.PassSchedule, what func(draught) T) []T {
	var l []T
	for d := range m.draughtsOf(s) {
		l = append(l, what(d))
	}
	return l
}

// forceBy is the force for a flow stress and a friction: it grows with both.
func (m mill) forceBy(d draught, stress, friction int) int {
	if d.isOpen() {
		return 0
	}
	return m.Width * (stress*d.reduction() + friction*(d.before+d.after))
}

// forces are the range of the force over all materials.
func (m mill) forces(d draught) api.Range {
	return api.Range{
		Lo: m.forceBy(d, m.Stress.Lo, m.Friction.Lo),
		Hi: m.forceBy(d, m.Stress.Hi, m.Friction.Hi),
	}
}

func (m mill) torques(d draught) api.Range {
	f := m.forces(d)
	return api.Range{Lo: f.Lo * d.reduction(), Hi: f.Hi * d.reduction()}
}

// energy is the greatest torque over all materials.
func (m mill) energy(d draught) int {
	return m.torques(d).Hi
}

// bites are parts times the range of the bite.
func (m mill) bites(d draught) api.Range {
	if d.isOpen() {
		return api.Range{}
	}
	bite := func(friction int) int {
		return parts/api.PassBiteUnit*friction*m.Stands[d.stand].Radius - parts*d.reduction()
	}
	return api.Range{Lo: bite(m.Friction.Lo), Hi: bite(m.Friction.Hi)}
}

// heats are parts times the range of the temperature after a draught. The losses
// of all stands up to it count, and all that was reduced from Start on.
func (m mill) heats(d draught) api.Range {
	var lost api.Range
	for _, s := range m.Stands[:d.stand+1] {
		lost.Lo += s.Loss.Lo
		lost.Hi += s.Loss.Hi
	}
	gained := parts / api.PassHeatUnit * (m.Start - d.after)
	return api.Range{
		Lo: parts*(m.Heat.Lo-lost.Hi) + gained*m.Stress.Lo,
		Hi: parts*(m.Heat.Hi-lost.Lo) + gained*m.Stress.Hi,
	}
}

// margins are parts times the margins for all materials, by their limits.
func (m mill) margins(d draught) [api.PassLimits]api.Range {
	stand, heats := m.Stands[d.stand], m.heats(d)
	return [api.PassLimits]api.Range{
		api.PassForce:  marginsTo(stand.Force, m.forces(d)),
		api.PassTorque: marginsTo(stand.Torque, m.torques(d)),
		api.PassBite:   m.bites(d),
		api.PassCold:   {Lo: heats.Lo - parts*m.Coldest, Hi: heats.Hi - parts*m.Coldest},
	}
}

// marginsTo are what loads leave of a limit.
func marginsTo(limit int, loads api.Range) api.Range {
	return api.Range{Lo: parts * (limit - loads.Hi), Hi: parts * (limit - loads.Lo)}
}

// passes tells whether a draught keeps some limits for all materials.
func (m mill) passes(d draught, limits ...int) bool {
	margins := m.margins(d)
	return !slices.ContainsFunc(limits, func(limit int) bool { return margins[limit].Lo < 0 })
}

// allLimits are the limits that each stand has.
func allLimits() []int {
	return []int{api.PassForce, api.PassTorque, api.PassBite, api.PassCold}
}

// answerFor tells whether a schedule holds.
func (m mill) answerFor(s api.PassSchedule) int {
	answer := api.AnswerYes
	for d := range m.draughtsOf(s) {
		for _, margin := range m.margins(d) {
			switch {
			case margin.Hi < 0:
				return api.AnswerNo
			case margin.Lo < 0:
				answer = api.AnswerMaybe
			}
		}
	}
	return answer
}

// rolling is the mill for one material alone: each range is one number, so that
// what is said of all materials is said of this one.
func (m mill) rolling(x api.PassMaterial) mill {
	only := func(n int) api.Range { return api.Range{Lo: n, Hi: n} }
	m.Stress, m.Friction, m.Heat = only(x.Stress), only(x.Friction), only(x.Heat)
	m.Stands = slices.Clone(m.Stands)
	for i, loss := range x.Losses {
		m.Stands[i].Loss = only(loss)
	}
	return m
}
