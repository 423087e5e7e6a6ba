package mill

import (
	"strconv"
	"strings"

	"cobble/api"
)

const lineFeed = "\n"

// sumAfter is the sum of a string after a number.
func sumAfter(s string, after int) int {
	for i := range len(s) {
		after = (after*api.MillFactor + int(s[i]) + 1) % api.MillPrime
	}
	return after
}

// SumOf returns the sum of a string after a number.
func SumOf(s string, after int) (int, api.Errno) {
	if e := limit(0, api.MillPrime-1)(after); e != api.OK {
		return 0, e
	}
	return sumAfter(s, after), api.OK
}

// written is the line of an entry without its line feed, and its sum, after the sum of
// the line before.
func written(e api.MillEntry, before int) (string, int) {
	s := strings.Join([]string{strconv.Itoa(e.At), e.By, e.Text}, blank)
	sum := sumAfter(s, before)
	return s + blank + strconv.Itoa(sum), sum
}

// journalOf is the journal of entries.
func journalOf(l []api.MillEntry) string {
	var journal strings.Builder
	sum := 0
	for _, e := range l {
		var s string
		s, sum = written(e, sum)
		journal.WriteString(s + lineFeed)
	}
	return journal.String()
}

// Journal returns the journal of a log.
func Journal(p api.MillPlant, l []api.MillEntry) (string, api.Errno) {
	x, e := lineAfter(p, l)
	if e != api.OK {
		return "", e
	}
	return journalOf(x.entries), api.OK
}

// Recovered returns the entries of the longest beginning of a string that is the journal
// of a valid log, and the number of its bytes.
func Recovered(p api.MillPlant, s string) ([]api.MillEntry, int, api.Errno) {
	w, _, e := worksOf(p)
	if e := firstError(e, orElse(len(s) <= api.MaxString, api.ErrLarge)); e != api.OK {
		return nil, 0, e
	}
	x := emptyLine(w)
	bytes, sum := 0, 0
	for {
		part, _, ended := strings.Cut(s[bytes:], lineFeed)
		if !ended {
			break
		}
		entry, next, is := readLine(part, sum)
		if !is || x.enter(entry) != api.OK {
			break
		}
		bytes, sum = bytes+len(part)+len(lineFeed), next
	}
	return x.entries, bytes, api.OK
}

// readLine reads the entry and the sum of a line, and tells whether the line is theirs:
// whatever is written otherwise than it would be is not.
func readLine(s string, before int) (api.MillEntry, int, bool) {
	end := strings.LastIndex(s, blank)
	words := strings.SplitN(s[:max(end, 0)], blank, 3)
	if len(words) < 3 {
		return api.MillEntry{}, 0, false
	}
	at, e := strconv.Atoi(words[0])
	entry := api.MillEntry{At: at, By: words[1], Text: words[2]}
	again, sum := written(entry, before)
	return entry, sum, e == nil && again == s
}
