package mill

import (
	"strconv"
	"strings"

	"cobble/api"
)

// maxDigits is how many digits a number of a text may have.
const maxDigits = 7

const blank = " "

// The characters of a text.
const (
	firstCharacter = 32
	lastCharacter  = 126
)

// kind is a kind of texts: their form, the least role of a person who makes them, and
// what they do, or the error because of which they do nothing.
type kind struct {
	form string
	role int
	act  func(l *line, t text) api.Errno
}

// text is what the words after the first one of a text are.
type text struct {
	words   []string
	numbers []int
	rest    string
}

// kinds are all kinds of texts.
func kinds() []kind {
	return []kind{
		{"note REST", api.MillViewer, (*line).note},
		{"order REST", api.MillPlanner, (*line).order},
		{"slab REST", api.MillPlanner, (*line).slab},
		{"assign SLAB ORDER", api.MillPlanner, (*line).assign},
		{"schedule ORDER REST", api.MillPlanner, (*line).schedule},
		{"charge SLAB", api.MillOperator, (*line).charge},
		{"draw SLAB", api.MillOperator, (*line).draw},
		{"start STAND", api.MillOperator, (*line).start},
		{"stop STAND", api.MillOperator, (*line).stop},
		{"thread", api.MillOperator, (*line).thread},
		{"raise STAND", api.MillOperator, (*line).raise},
		{"lower STAND", api.MillOperator, (*line).lower},
		{"leave", api.MillOperator, (*line).leave},
		{"cobble STAND", api.MillOperator, (*line).cobble},
		{"clear", api.MillOperator, (*line).clear},
		{"rolls STAND NUMBER", api.MillOperator, (*line).rolls},
		{"coil COIL REST", api.MillOperator, (*line).coil},
		{"read COIL STEP AT WORD", api.MillOperator, (*line).read},
		{"learn REST", api.MillOperator, (*line).learn},
		{"forget NUMBER STEPS", api.MillMaster, (*line).forget},
		{"ship COIL", api.MillMaster, (*line).ship},
	}
}

// kindOf is the kind of a text, and nil if there is no such kind.
func kindOf(s string) *kind {
	return named(kinds(), firstWord(s), func(k kind) string { return firstWord(k.form) })
}

func firstWord(s string) string {
	word, _, _ := strings.Cut(s, blank)
	return word
}

// read reads a text, and tells whether it is of the form of its kind.
func (k kind) read(s string) (text, bool) {
	form := strings.Split(k.form, blank)
	words := strings.SplitN(s, blank, len(form))
	if len(words) < len(form) || words[0] != form[0] {
		return text{}, false
	}
	var t text
	for i, word := range words[1:] {
		if !t.take(form[i+1], word) {
			return text{}, false
		}
	}
	return t, true
}

// take takes a word for what a form has at its place, and tells whether it can be it.
func (t *text) take(what, word string) bool {
	switch what {
	case "REST":
		t.rest = word
		return true
	case "NUMBER", "STEP", "AT", "STEPS":
		n, is := number(word)
		t.numbers = append(t.numbers, n)
		return is
	}
	t.words = append(t.words, word)
	return word != "" && !strings.Contains(word, blank)
}

// number is a number without a sign. What it is written as tells whether it has leading
// zeros, or signs that a number may have elsewhere.
func number(word string) (int, bool) {
	if len(word) > maxDigits {
		return 0, false
	}
	n, e := strconv.Atoi(word)
	return n, e == nil && n >= 0 && strconv.Itoa(n) == word
}

// checkCharacters returns the error of a text with a byte outside of the characters. A
// byte that is no character of its own is a rune above them.
func checkCharacters(s string) api.Errno {
	for _, r := range s {
		if r < firstCharacter || r > lastCharacter {
			return api.ErrForm
		}
	}
	return api.OK
}
