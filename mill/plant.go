package mill

import (
	"cobble/api"
	"cobble/model"
	"cobble/pass"
)

// works are a plant that has no error, with the rules that its strings say.
type works struct {
	api.MillPlant
	passes api.PassRules
	grade  api.ModelRules
}

// worksOf returns the first error of a plant, and its index.
func worksOf(p api.MillPlant) (works, int, api.Errno) {
	if i, e := checkPeople(p.People); e != api.OK {
		return works{}, i, e
	}
	if i, e := checkStands(p.Stands); e != api.OK {
		return works{}, i, e
	}
	passes, wrongPasses := pass.ParseRules(p.Passes)
	grade, wrongGrade := model.ParseRules(p.Model)
	e := firstError(wrongPasses, wrongGrade, orElse(len(passes.Stands) == len(p.Stands), api.ErrClash))
	if e != api.OK {
		return works{}, 0, e
	}
	return works{p, passes, grade}, 0, api.OK
}

// CheckPlant returns the first error of a plant, and its index.
func CheckPlant(p api.MillPlant) (int, api.Errno) {
	_, i, e := worksOf(p)
	return i, e
}

func checkPeople(l []api.MillPerson) (int, api.Errno) {
	e := firstError(orElse(len(l) > 0, api.ErrShape), orElse(len(l) <= api.MaxMillPeople, api.ErrLarge))
	if e != api.OK {
		return 0, e
	}
	return firstWrong(l, nameOfPerson, func(x api.MillPerson) api.Errno {
		return orElse(limit(0, api.MillRoles-1)(x.Role) == api.OK, api.ErrKind)
	})
}

func checkStands(l []string) (int, api.Errno) {
	e := firstError(orElse(len(l) >= 2, api.ErrShape), orElse(len(l) <= api.MaxMillStands, api.ErrLarge))
	if e != api.OK {
		return 0, e
	}
	return firstWrong(l, nameOfStand, func(string) api.Errno { return api.OK })
}

// firstWrong returns the first error of items, whose names must be names, and differ,
// and the index of the item; check returns the other errors of an item.
func firstWrong[T any](items []T, nameOf func(T) string, check func(T) api.Errno) (int, api.Errno) {
	for i, x := range items {
		e := firstError(
			checkName(nameOf(x)),
			orElse(named(items[:i], nameOf(x), nameOf) == nil, api.ErrExists),
			check(x))
		if e != api.OK {
			return i, e
		}
	}
	return 0, api.OK
}
