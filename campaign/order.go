package campaign

import (
	"slices"
	"strconv"

	"cobble/api"
)

// tenths is the number of parts of a degree in which temperatures are kept.
const tenths = 10

// CheckOrder returns the first error of an order.
func CheckOrder(o api.CampaignOrder) api.Errno {
	switch {
	case !isName(o.Name):
		return api.ErrName
	case !within(1, api.MaxCampaignGrade, o.Grade),
		!within(1, api.MaxCampaignThickness, o.Thickness),
		!within(0, o.Thickness-1, o.Tolerance),
		!within(api.MinCampaignWidth, api.MaxCampaignWidth, o.Width),
		!within(0, api.MaxCampaignHeat, o.Coiling.Lo, o.Coiling.Hi):
		return api.ErrRange
	case o.Coiling.Lo > o.Coiling.Hi:
		return api.ErrOrder
	case o.Coiling.Lo%tenths != 0, o.Coiling.Hi%tenths != 0:
		return api.ErrForm
	case !within(0, api.MaxCampaignDay, o.Due):
		return api.ErrRange
	}
	return api.OK
}

// clause is a clause of an order: its first word, whether it must be given, how
// the words after the first one are read into an order, and how they are written.
type clause struct {
	word  string
	must  bool
	read  func(r *reader, o *api.CampaignOrder)
	write func(o api.CampaignOrder) string
}

// clauses are all clauses, in the order in which they are written.
func clauses() []clause {
	return []clause{
		{"grade", true,
			func(r *reader, o *api.CampaignOrder) { o.Grade = r.number() },
			func(o api.CampaignOrder) string { return strconv.Itoa(o.Grade) }},
		{"thickness", true,
			func(r *reader, o *api.CampaignOrder) { o.Thickness = r.thickness() },
			func(o api.CampaignOrder) string { return strconv.Itoa(o.Thickness) + " um" }},
		{"tolerance", false,
			func(r *reader, o *api.CampaignOrder) { o.Tolerance = r.thickness() },
			func(o api.CampaignOrder) string { return strconv.Itoa(o.Tolerance) + " um" }},
		{"width", true,
			readWidth,
			func(o api.CampaignOrder) string { return strconv.Itoa(o.Width) + " mm" }},
		{"coiling", false,
			readCoiling,
			func(o api.CampaignOrder) string {
				return strconv.Itoa(degreesOf(o.Coiling.Lo)) + " to " + strconv.Itoa(degreesOf(o.Coiling.Hi)) + " C"
			}},
		{"due", false,
			func(r *reader, o *api.CampaignOrder) { o.Due = r.number() },
			func(o api.CampaignOrder) string { return strconv.Itoa(o.Due) }},
	}
}

func readWidth(r *reader, o *api.CampaignOrder) {
	o.Width = r.number()
	r.oneOf("mm")
}

func readCoiling(r *reader, o *api.CampaignOrder) {
	o.Coiling.Lo = tenths * r.number()
	r.oneOf("to")
	o.Coiling.Hi = tenths * r.number()
	r.oneOf("C")
}

// degreesOf rounds down, where Go's division rounds towards zero.
func degreesOf(heat int) int {
	degrees := heat / tenths
	if heat%tenths < 0 {
		degrees--
	}
	return degrees
}

// FormatOrder returns the string of an order.
func FormatOrder(o api.CampaignOrder) string {
	s := o.Name
	for _, c := range clauses() {
		s += " " + c.word + " " + c.write(o)
	}
	return s
}

// ParseOrder returns the order with a string, or an error and the index of its
// word.
func ParseOrder(s string) (api.CampaignOrder, int, api.Errno) {
	o := api.CampaignOrder{Coiling: api.Range{Lo: 0, Hi: api.MaxCampaignHeat}}
	r := readerOf(s)
	o.Name = r.word(isName)
	given := map[string]bool{}
	for r.more() {
		at := r.at
		first := r.word(isClause)
		if given[first] {
			return api.CampaignOrder{}, at, api.ErrDouble
		}
		given[first] = true
		readClause(first, r, &o)
	}
	if r.stopped {
		return api.CampaignOrder{}, r.at, api.ErrSyntax
	}
	if e := firstError(checkGiven(given), CheckOrder(o)); e != api.OK {
		return api.CampaignOrder{}, 0, e
	}
	return o, 0, api.OK
}

func isClause(word string) bool {
	return slices.ContainsFunc(clauses(), func(c clause) bool { return c.word == word })
}

// readClause reads what follows the first word of a clause.
func readClause(first string, r *reader, o *api.CampaignOrder) {
	for _, c := range clauses() {
		if c.word == first {
			c.read(r, o)
		}
	}
}

func checkGiven(given map[string]bool) api.Errno {
	for _, c := range clauses() {
		if c.must && !given[c.word] {
			return api.ErrGap
		}
	}
	return api.OK
}
