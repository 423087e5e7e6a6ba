package furnace

import "cobble/api"

// CheckBeam returns the first error of a walking beam, and the index of its zone.
func CheckBeam(b api.FurnaceBeam) (int, api.Errno) {
	switch {
	case len(b.Positions) == 0:
		return 0, api.ErrShape
	case len(b.Positions) > api.MaxFurnaceZones:
		return 0, api.ErrLarge
	}
	if e := limit(1, api.MaxFurnaceBeat)(b.Beat); e != api.OK {
		return 0, e
	}
	for i, n := range b.Positions {
		if e := limit(1, api.MaxFurnaceSteps)(n); e != api.OK {
			return i, e
		}
	}
	return 0, api.OK
}

// RouteOf returns the route of a beam whose zones have the given temperatures.
func RouteOf(b api.FurnaceBeam, sets []int) ([]api.FurnaceZone, api.Errno) {
	if _, e := CheckBeam(b); e != api.OK {
		return nil, e
	}
	if len(sets) != len(b.Positions) {
		return nil, api.ErrShape
	}
	if e := checkTemperatures(sets...); e != api.OK {
		return nil, e
	}
	var l []api.FurnaceZone
	for i, set := range sets {
		steps := b.Positions[i] * b.Beat
		if steps > api.MaxFurnaceSteps {
			return nil, api.ErrLarge
		}
		l = append(l, api.FurnaceZone{Set: set, Steps: steps})
	}
	return l, api.OK
}

func checkTicks(numbers ...int) api.Errno {
	return limit(0, api.MaxTick)(numbers...)
}

// ZoneAt returns the index of the zone in which a slab is at a tick.
func ZoneAt(b api.FurnaceBeam, charge, tick int) (int, api.Errno) {
	_, e := CheckBeam(b)
	if e := firstError(e, checkTicks(charge, tick)); e != api.OK {
		return 0, e
	}
	if tick < charge {
		return 0, api.ErrOrder
	}
	position := (tick - charge) / b.Beat
	for zone, n := range b.Positions {
		if position < n {
			return zone, api.OK
		}
		position -= n
	}
	return 0, api.ErrNone
}

// LatestCharge returns the latest tick of a charge that is discharged in time.
func LatestCharge(b api.FurnaceBeam, delivery int) (int, api.Errno) {
	_, e := CheckBeam(b)
	if e := firstError(e, checkTicks(delivery)); e != api.OK {
		return 0, e
	}
	charge := delivery
	for _, n := range b.Positions {
		charge -= n * b.Beat
	}
	if charge < 0 {
		return 0, api.ErrNone
	}
	return charge, api.OK
}
