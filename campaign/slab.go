package campaign

import (
	"strconv"
	"strings"

	"cobble/api"
)

// CheckSlab returns the first error of a slab.
func CheckSlab(s api.CampaignSlab) api.Errno {
	switch {
	case !isName(s.Name):
		return api.ErrName
	case !within(1, api.MaxCampaignGrade, s.Grade),
		!within(1, api.MaxCampaignThickness, s.Thickness),
		!within(api.MinCampaignWidth, api.MaxCampaignWidth, s.Width),
		!within(1, api.MaxCampaignLength, s.Length):
		return api.ErrRange
	}
	return api.OK
}

// FormatSlab returns the string of a slab.
func FormatSlab(s api.CampaignSlab) string {
	words := []string{s.Name}
	for _, n := range []int{s.Grade, s.Thickness, s.Width, s.Length} {
		words = append(words, strconv.Itoa(n))
	}
	return strings.Join(words, " ")
}

// ParseSlab returns the slab with a string.
func ParseSlab(s string) (api.CampaignSlab, api.Errno) {
	r := readerOf(s)
	var slab api.CampaignSlab
	// Whether it is a name is an error of the slab, and not one of the string.
	slab.Name = r.word(func(w string) bool { return w != "" })
	for _, n := range []*int{&slab.Grade, &slab.Thickness, &slab.Width, &slab.Length} {
		*n = r.number()
	}
	if r.stopped || r.more() {
		return api.CampaignSlab{}, api.ErrSyntax
	}
	if e := CheckSlab(slab); e != api.OK {
		return api.CampaignSlab{}, e
	}
	return slab, api.OK
}

// Suits tells whether a slab suits an order.
func Suits(s api.CampaignSlab, o api.CampaignOrder) (bool, api.Errno) {
	if e := firstError(CheckSlab(s), CheckOrder(o)); e != api.OK {
		return false, e
	}
	return s.Grade == o.Grade && within(0, api.CampaignEdging, s.Width-o.Width), api.OK
}

// CoilLength returns the range of the length of the coil that an order gets from
// a slab.
func CoilLength(s api.CampaignSlab, o api.CampaignOrder) (api.Range, api.Errno) {
	suits, e := Suits(s, o)
	if e != api.OK {
		return api.Range{}, e
	}
	if !suits {
		return api.Range{}, api.ErrClash
	}
	volume := s.Thickness * s.Width * s.Length
	thickest := (o.Thickness + o.Tolerance) * o.Width
	thinnest := (o.Thickness - o.Tolerance) * o.Width
	return api.Range{Lo: volume / thickest, Hi: (volume + thinnest - 1) / thinnest}, api.OK
}
