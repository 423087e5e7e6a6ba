package mill_test

import (
	"strings"
	"testing"

	"cobble/api"
	"cobble/mill"
)

func TestP10_1Plants(t *testing.T) {
	for _, p := range []api.MillPlant{examplePlant(), longPlant()} {
		i, e := mill.CheckPlant(p)
		wantSame(t, "CheckPlant", i, e, 0, api.OK)
	}
}

// TestP10_1Errors has all faults at once, and mends them from the first one on.
func TestP10_1Errors(t *testing.T) {
	person := func(name string, role int) api.MillPerson { return api.MillPerson{Name: name, Role: role} }
	p := api.MillPlant{Stands: []string{"f1"}}
	wantErrors(t, func() (int, api.Errno) { return mill.CheckPlant(p) },
		step{0, api.ErrShape, func() { p.People = make([]api.MillPerson, 9) }},
		step{0, api.ErrLarge, func() { p.People = p.People[:8] }},
		step{0, api.ErrName, func() { p.People[0] = person("ola", 4) }},
		step{0, api.ErrKind, func() { p.People[0].Role, p.People[1] = 3, person("tom", -1) }},
		step{1, api.ErrKind, func() { p.People[1].Role, p.People[2] = 0, person("ola", 4) }},
		step{2, api.ErrExists, func() { p.People = append(p.People[:2], person("Ola", 1), person("o-1", 2), person("a b", 1)) }},
		step{4, api.ErrName, func() { p.People = p.People[:4] }},
		step{0, api.ErrShape, func() { p.Stands = nil }},
		step{0, api.ErrShape, func() { p.Stands = []string{"", "2", "f1", "f1", "", "", ""} }},
		step{0, api.ErrLarge, func() { p.Stands = p.Stands[:6] }},
		step{0, api.ErrName, func() { p.Stands[0] = "f0" }},
		step{1, api.ErrName, func() { p.Stands[1] = "f0" }},
		step{1, api.ErrExists, func() { p.Stands[1] = "f2" }},
		step{3, api.ErrExists, func() { p.Stands = p.Stands[:3] }},
		step{0, api.ErrSyntax, func() { p.Passes = strings.Replace(threeStands, "100 60", "60 100", 1) }},
		step{0, api.ErrOrder, func() { p.Passes = twoStands }},
		step{0, api.ErrSyntax, func() { p.Model = exampleGain + " 10000@70" }},
		step{0, api.ErrOrder, func() { p.Model = exampleGain }},
		step{0, api.ErrClash, func() { p.Passes = threeStands }},
	)
}

func TestP10_1Limits(t *testing.T) {
	p := examplePlant()
	p.People, p.Stands = nil, nil
	for _, c := range "abcdefgh" {
		p.People = append(p.People, api.MillPerson{Name: string(c) + "-234567890a", Role: api.MillMaster})
	}
	for _, c := range "abcdef" {
		p.Stands = append(p.Stands, string(c))
	}
	p.Passes = twoStands + strings.Repeat(" ; 300 20000 400000 0 100", 4)
	i, e := mill.CheckPlant(p)
	wantSame(t, "CheckPlant", i, e, 0, api.OK)
	p.People[7].Name += "b"
	i, e = mill.CheckPlant(p)
	wantSame(t, "CheckPlant with a long name", i, e, 7, api.ErrName)
	p.People[7].Name = "h"
	p.Stands[5] = "a"
	i, e = mill.CheckPlant(p)
	wantSame(t, "CheckPlant with a stand twice", i, e, 5, api.ErrExists)
	p.Stands[5] = "1"
	i, e = mill.CheckPlant(p)
	wantSame(t, "CheckPlant with a wrong stand", i, e, 5, api.ErrName)
}

// TestP10_1SameNames has a person with the name of a stand.
func TestP10_1SameNames(t *testing.T) {
	p := examplePlant()
	p.People[1].Name, p.Passes, p.Model = "f1", strings.Replace(twoStands, "10 100", "10 101", 1), "1/1 1/1 0 5@7"
	i, e := mill.CheckPlant(p)
	wantSame(t, "CheckPlant", i, e, 0, api.OK)
}
