package mill

import (
	"cobble/api"
	"cobble/campaign"
	"cobble/pass"
)

func (l *line) orderNamed(name string) *api.MillOrder {
	return named(l.Orders, name, nameOfOrder)
}

func (l *line) slabNamed(name string) *api.MillSlab {
	return named(l.Slabs, name, nameOfSlab)
}

func (l *line) note(text) api.Errno {
	return api.OK
}

func (l *line) order(t text) api.Errno {
	o, _, wrong := campaign.ParseOrder(t.rest)
	e := firstError(wrong,
		orElse(l.orderNamed(o.Name) == nil, api.ErrExists),
		orElse(len(l.Orders) < api.MaxMillOrders, api.ErrFull))
	if e != api.OK {
		return e
	}
	l.Orders = append(l.Orders, api.MillOrder{Order: o})
	return api.OK
}

func (l *line) slab(t text) api.Errno {
	s, wrong := campaign.ParseSlab(t.rest)
	e := firstError(wrong,
		orElse(l.slabNamed(s.Name) == nil, api.ErrExists),
		orElse(len(l.Slabs) < api.MaxMillSlabs, api.ErrFull))
	if e != api.OK {
		return e
	}
	l.Slabs = append(l.Slabs, api.MillSlab{Slab: s, Place: api.MillYard})
	return api.OK
}

func (l *line) assign(t text) api.Errno {
	s, o := l.slabNamed(t.words[0]), l.orderNamed(t.words[1])
	if s == nil || o == nil {
		return api.ErrMissing
	}
	suits, wrong := campaign.Suits(s.Slab, o.Order)
	e := firstError(orElse(s.Place == api.MillYard, api.ErrState), wrong, orElse(suits, api.ErrRefused))
	if e != api.OK {
		return e
	}
	s.Order = o.Order.Name
	return api.OK
}

func (l *line) schedule(t text) api.Errno {
	o := l.orderNamed(t.words[0])
	if o == nil {
		return api.ErrMissing
	}
	s, e := pass.ParseSchedule(t.rest)
	if e != api.OK {
		return e
	}
	_, wrong := pass.CheckSchedule(l.passes, s)
	answer, e := pass.HoldsFor(l.passes, s)
	if e := firstError(wrong, e, orElse(answer == api.AnswerYes, api.ErrRefused)); e != api.OK {
		return e
	}
	o.Planned, o.Schedule = true, s
	return api.OK
}

// slabsIn is how many slabs are in a place.
func (l *line) slabsIn(place int) int {
	n := 0
	for _, s := range l.Slabs {
		if s.Place == place {
			n++
		}
	}
	return n
}

func (l *line) charge(t text) api.Errno {
	s := l.slabNamed(t.words[0])
	if s == nil {
		return api.ErrMissing
	}
	e := firstError(
		orElse(s.Place == api.MillYard, api.ErrState),
		orElse(s.Order != "", api.ErrGap),
		orElse(l.slabsIn(api.MillFurnace) < api.MaxMillFurnace, api.ErrFull))
	if e != api.OK {
		return e
	}
	s.Place = api.MillFurnace
	return api.OK
}

// SlabsFor returns the names of the slabs for an order.
func SlabsFor(p api.MillPlant, l []api.MillEntry, order string) ([]string, api.Errno) {
	x, e := lineAfter(p, l)
	if e != api.OK {
		return nil, e
	}
	if e := checkKnown(order, x.orderNamed(order) != nil); e != api.OK {
		return nil, e
	}
	var names []string
	for _, s := range x.Slabs {
		if s.Order == order {
			names = append(names, s.Slab.Name)
		}
	}
	return names, api.OK
}
