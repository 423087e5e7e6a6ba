package gauge

import (
	"slices"

	"cobble/api"
)

// monitor is a monitor that has no error.
type monitor struct{ api.GaugeMonitor }

// monitorOf returns the error of a monitor.
func monitorOf(m api.GaugeMonitor) (monitor, api.Errno) {
	if e := CheckMonitor(m); e != api.OK {
		return monitor{}, e
	}
	return monitor{m}, api.OK
}

// CheckMonitor returns the error of a monitor.
func CheckMonitor(m api.GaugeMonitor) api.Errno {
	return firstError(
		limit(0, api.MaxGaugeDelay)(m.Delay),
		limit(0, api.MaxGaugeGain)(m.Num),
		limit(1, api.MaxGaugeGain)(m.Den),
		limit(0, api.MaxGaugeSwing)(m.Band))
}

// takenFor is what is taken from the correction for a measured output.
func (m monitor) takenFor(output int) int {
	if max(output, -output) <= m.Band {
		return 0
	}
	return m.Num * output / m.Den
}

// outputs are the outputs of all ticks.
func (m monitor) outputs(disturbances []int) ([]int, api.Errno) {
	most := api.Range{Lo: -api.MaxGaugeOutput, Hi: api.MaxGaugeOutput}
	var l []int
	correction := 0
	for t, disturbance := range disturbances {
		l = append(l, disturbance+correction)
		if e := within(most, api.ErrBreak)(l[t]); e != api.OK {
			return nil, e
		}
		if t >= m.Delay {
			correction -= m.takenFor(l[t-m.Delay])
		}
	}
	return l, api.OK
}

// Monitored returns the outputs of all ticks.
func Monitored(m api.GaugeMonitor, disturbances []int) ([]int, api.Errno) {
	x, e := monitorOf(m)
	if e != api.OK {
		return nil, e
	}
	if len(disturbances) > api.MaxGaugeRun {
		return nil, api.ErrLarge
	}
	if e := size(api.MaxGaugeSwing)(disturbances...); e != api.OK {
		return nil, e
	}
	return x.outputs(disturbances)
}

// RestsAfter returns the minimum number of ticks after which a monitor rests.
func RestsAfter(m api.GaugeMonitor, disturbance int) (int, api.Errno) {
	x, e := monitorOf(m)
	if e := firstError(e, size(api.MaxGaugeSwing)(disturbance)); e != api.OK {
		return 0, e
	}
	l, e := x.outputs(slices.Repeat([]int{disturbance}, api.MaxGaugeRun+1))
	if e != api.OK {
		return 0, e
	}
	// It rests from a tick on if nothing is taken for its output, nor for those
	// that are still to be measured. Nothing is taken for what was before the
	// first tick.
	quiet := m.Delay
	for t, output := range l {
		quiet++
		if x.takenFor(output) != 0 {
			quiet = 0
		}
		if quiet > m.Delay {
			return t, api.OK
		}
	}
	return 0, api.ErrOpen
}
