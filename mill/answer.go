package mill

import (
	"strconv"
	"strings"

	"cobble/api"
	"cobble/model"
)

// nothing is the answer if there are no names.
const nothing = "-"

// placeWords are the words for the places of slabs.
var placeWords = [...]string{
	api.MillYard:     "yard",
	api.MillFurnace:  "furnace",
	api.MillInLine:   "line",
	api.MillCoiled:   "coiled",
	api.MillScrapped: "scrapped",
}

// list is names as an answer.
func list(names []string) string {
	if len(names) == 0 {
		return nothing
	}
	return strings.Join(names, ",")
}

// answer returns the answer to a question, or the error of the question.
func (l *line) answer(question string) (string, api.Errno) {
	word, name, isAbout := strings.Cut(question, blank)
	switch {
	case isAbout && word == "place":
		return l.placeOf(name)
	case isAbout && word == "report":
		return l.report(name)
	}
	switch question {
	case "count":
		return strconv.Itoa(len(l.entries)), api.OK
	case "strip":
		if l.Line.Strip == "" {
			return nothing, api.OK
		}
		return l.Line.Strip, api.OK
	case "running":
		return list(l.standsWhere(l.runs)), api.OK
	case "loaded":
		return list(l.standsWhere(l.isLoaded)), api.OK
	case "orders":
		return list(namesOf(l.Orders, nameOfOrder)), api.OK
	case "slabs":
		return list(namesOf(l.Slabs, nameOfSlab)), api.OK
	case "coils":
		return list(namesOf(l.Coils, nameOfCoil)), api.OK
	case "version":
		return model.FormatCorrection(l.Correction), api.OK
	}
	return "", api.ErrSyntax
}

// placeOf returns the place of a slab in words, or the error of its name.
func (l *line) placeOf(name string) (string, api.Errno) {
	s := l.slabNamed(name)
	if e := checkKnown(name, s != nil); e != api.OK {
		return "", e
	}
	return placeWords[s.Place], api.OK
}

// Answer returns the answer to a question about a log.
func Answer(p api.MillPlant, l []api.MillEntry, question string) (string, api.Errno) {
	x, e := lineAfter(p, l)
	if e != api.OK {
		return "", e
	}
	return x.answer(question)
}
