package trace

import "cobble/api"

// strip is the areas of sections, and a map of the positions on the strip: to the volume
// of the slab before them, which each point keeps in all passes and cuts.
type strip struct {
	line
	areas []int
}

// laid is the strip of sections that begin at the volumes of the slab before them, and
// end at those that follow.
func laid(volumes []exact, areas []int) strip {
	s := strip{line{{whole(0), volumes[0]}}, areas}
	for i, area := range areas {
		length := volumes[i+1].minus(volumes[i]).over(whole(area))
		end := s.line[i].in.plus(length).reduced()
		s.line = append(s.line, knot{end, volumes[i+1]})
	}
	return s
}

// slabOf is the strip after no steps.
func slabOf(c api.TraceCourse) strip {
	volume := 0
	volumes := []exact{whole(0)}
	for i, length := range c.Lengths {
		volume += length * c.Areas[i]
		volumes = append(volumes, whole(volume))
	}
	return laid(volumes, c.Areas)
}

func (s strip) volumes() []exact {
	var volumes []exact
	for _, k := range s.line {
		volumes = append(volumes, k.out)
	}
	return volumes
}

func (s strip) length() exact {
	return s.line[len(s.areas)].in
}

func (s strip) volume() exact {
	return s.line[len(s.areas)].out.minus(s.line[0].out)
}

// has tells whether a whole number is a position on the strip.
func (s strip) has(position int) bool {
	return position >= 0 && !s.length().less(whole(position))
}

// passed is the strip after a pass.
func (s strip) passed(areas []int) strip {
	return laid(s.volumes(), areas)
}

// cut is the strip after a cut.
func (s strip) cut(from, to int) strip {
	first, _ := s.valueAt(whole(from))
	last, _ := s.valueAt(whole(to))
	volumes, areas := []exact{first}, []int(nil)
	i := 0
	for p := range s.pieces() {
		if first.less(p[1].out) && p[0].out.less(last) {
			volumes = append(volumes, least(p[1].out, last))
			areas = append(areas, s.areas[i])
		}
		i++
	}
	return laid(volumes, areas)
}

// result is the strip with the lengths of its sections, or the error of their parts, and
// of those of the ends.
func (s strip) result() (api.TraceStrip, api.Errno) {
	var x api.TraceStrip
	for p := range s.pieces() {
		length, wrongLength := p[1].in.minus(p[0].in).frac()
		_, wrongEnd := p[1].in.frac()
		if e := firstError(wrongLength, wrongEnd); e != api.OK {
			return api.TraceStrip{}, e
		}
		x.Sections = append(x.Sections, api.TraceSection{Length: length, Area: s.areas[len(x.Sections)]})
	}
	return x, api.OK
}
