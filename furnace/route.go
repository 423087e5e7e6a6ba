package furnace

import (
	"strconv"
	"strings"

	"cobble/api"
)

// CheckRoute returns the first error of a route, and the index of its zone.
func CheckRoute(l []api.FurnaceZone) (int, api.Errno) {
	if len(l) > api.MaxFurnaceZones {
		return 0, api.ErrLarge
	}
	for i, z := range l {
		if e := firstError(checkTemperatures(z.Set), limit(0, api.MaxFurnaceSteps)(z.Steps)); e != api.OK {
			return i, e
		}
	}
	return 0, api.OK
}

// slabsOf returns a slab after each zone of a run.
func (h heated) slabsOf(x api.FurnaceRun) []api.FurnaceSlab {
	var l []api.FurnaceSlab
	for _, z := range x.Route {
		h = h.copied()
		h.take(z.Steps, h.heatBy(x.Emissivity, z.Set))
		l = append(l, h.FurnaceSlab)
	}
	return l
}

// follow makes all steps of a run, which change the nodes.
func (h heated) follow(x api.FurnaceRun) {
	for _, z := range x.Route {
		h.take(z.Steps, h.heatBy(x.Emissivity, z.Set))
	}
}

// heatedFor returns the errors of the rules, the slab and a run.
func heatedFor(r api.FurnaceRules, s api.FurnaceSlab, x api.FurnaceRun) (heated, api.Errno) {
	h, e := heatedOf(r, s)
	_, wrongRoute := CheckRoute(x.Route)
	if e := firstError(e, wrongRoute, checkParts(x.Emissivity)); e != api.OK {
		return heated{}, e
	}
	return h, api.OK
}

// RunOf returns a slab after each zone of a run.
func RunOf(r api.FurnaceRules, s api.FurnaceSlab, x api.FurnaceRun) ([]api.FurnaceSlab, api.Errno) {
	h, e := heatedFor(r, s, x)
	if e != api.OK {
		return nil, e
	}
	return h.slabsOf(x), api.OK
}

// SkidMark returns by how much more the mean of a slab grows in a run that is
// heated from below as from above.
func SkidMark(r api.FurnaceRules, s api.FurnaceSlab, x api.FurnaceRun) (int, api.Errno) {
	marked, e := heatedFor(r, s, x)
	if e != api.OK {
		return 0, e
	}
	even := marked.copied()
	even.Bottom = api.FurnaceParts
	marked.follow(x)
	even.follow(x)
	return quotient(even.sum()-marked.sum(), len(s.Nodes)), api.OK
}

// FormatRoute returns the string of a route.
func FormatRoute(l []api.FurnaceZone) string {
	var words []string
	for _, z := range l {
		words = append(words, strconv.Itoa(z.Set)+"x"+strconv.Itoa(z.Steps))
	}
	return strings.Join(words, " ")
}

// ParseRoute returns the route with a string.
func ParseRoute(s string) ([]api.FurnaceZone, api.Errno) {
	switch {
	case len(s) > api.MaxString:
		return nil, api.ErrLarge
	case s == "":
		return nil, api.OK
	}
	var l []api.FurnaceZone
	for _, word := range strings.Split(s, " ") {
		set, steps, _ := strings.Cut(word, "x")
		if !isNumber(set) || !isNumber(steps) {
			return nil, api.ErrSyntax
		}
		l = append(l, api.FurnaceZone{Set: numberOf(set), Steps: numberOf(steps)})
	}
	if _, e := CheckRoute(l); e != api.OK {
		return nil, e
	}
	return l, api.OK
}

// maxDigits is how many digits a number of a string may have.
const maxDigits = 5

// isNumber tells whether a word is a number without a sign; leading zeros are
// refused, so that each number is written in one way.
func isNumber(word string) bool {
	if len(word) == 0 || len(word) > maxDigits || len(word) > 1 && word[0] == '0' {
		return false
	}
	for i := range len(word) {
		if word[i] < '0' || word[i] > '9' {
			return false
		}
	}
	return true
}

// numberOf is the number that a word is written for.
func numberOf(word string) int {
	n := 0
	for i := range len(word) {
		n = 10*n + int(word[i]-'0')
	}
	return n
}
