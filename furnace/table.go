package furnace

import "cobble/api"

// CheckTable returns the first error of a table, and the index of its point.
func CheckTable(t api.FurnaceTable) (int, api.Errno) {
	switch {
	case len(t.Points) == 0:
		return 0, api.ErrShape
	case len(t.Points) > api.MaxFurnacePoints:
		return 0, api.ErrLarge
	}
	for i, p := range t.Points {
		e := firstError(checkTemperatures(p.Temperature), limit(0, api.MaxFurnaceRadiance)(p.Radiance))
		if i > 0 {
			e = firstError(e, checkRise(t.Points[i-1], p))
		}
		if e != api.OK {
			return i, e
		}
	}
	return 0, api.OK
}

// checkRise returns the error of a point after another one.
func checkRise(before, p api.FurnacePoint) api.Errno {
	switch {
	case p.Temperature <= before.Temperature, p.Radiance < before.Radiance:
		return api.ErrOrder
	case p.Radiance-before.Radiance > p.Temperature-before.Temperature:
		return api.ErrBreak
	}
	return api.OK
}

// RadianceAt returns the radiance at a temperature.
func RadianceAt(t api.FurnaceTable, temperature int) (int, api.Errno) {
	_, e := CheckTable(t)
	if e := firstError(e, checkTemperatures(temperature)); e != api.OK {
		return 0, e
	}
	return radianceIn(t, temperature), api.OK
}

// radianceIn is the radiance by a table that has no error.
func radianceIn(t api.FurnaceTable, temperature int) int {
	after := 0
	for after < len(t.Points) && t.Points[after].Temperature < temperature {
		after++
	}
	switch after {
	case 0:
		return t.Points[0].Radiance
	case len(t.Points):
		return t.Points[after-1].Radiance
	}
	p, q := t.Points[after-1], t.Points[after]
	return p.Radiance + (q.Radiance-p.Radiance)*(temperature-p.Temperature)/(q.Temperature-p.Temperature)
}
