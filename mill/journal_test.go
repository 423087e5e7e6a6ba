package mill_test

import (
	"fmt"
	"math"
	"math/big"
	"math/rand"
	"strings"
	"testing"

	"cobble/api"
	"cobble/mill"
)

// sumByHand is the sum of a string after a number: its bytes, each plus 1, are the
// digits of a number, and the number before them is its first digit.
func sumByHand(s string, after int) int {
	x := big.NewInt(int64(after))
	for _, c := range []byte(s) {
		x.Mul(x, big.NewInt(137))
		x.Add(x, big.NewInt(int64(c)+1))
	}
	return int(x.Mod(x, big.NewInt(1000033)).Int64())
}

func TestP10_5Sums(t *testing.T) {
	for _, x := range []struct {
		s           string
		after, want int
		e           api.Errno
	}{
		{"", 0, 0, api.OK}, {"a", 0, 98, api.OK}, {"ab", 0, 13525, api.OK}, {"", 1000032, 1000032, api.OK}, {"\x00", 0, 1, api.OK}, {"\xff", 0, 256, api.OK}, {"b", 98, 13525, api.OK},
		{"a", -1, 0, api.ErrRange}, {"a", 1000033, 0, api.ErrRange}, {"", math.MinInt, 0, api.ErrRange}, {"", math.MaxInt, 0, api.ErrRange},
	} {
		n, e := mill.SumOf(x.s, x.after)
		wantSame(t, x.s, n, e, x.want, x.e)
	}
	rnd := rand.New(rand.NewSource(105))
	for range 500 {
		s := make([]byte, rnd.Intn(400))
		rnd.Read(s)
		after := oneOf(rnd, 0, 1, 1000032, rnd.Intn(1000033))
		n, e := mill.SumOf(string(s), after)
		wantSame(t, "SumOf", n, e, sumByHand(string(s), after), api.OK)
	}
}

// journalByHand is the journal of a log.
func journalByHand(l []api.MillEntry) string {
	j, sum := "", 0
	for _, e := range l {
		s := fmt.Sprintf("%d %s %s", e.At, e.By, e.Text)
		sum = sumByHand(s, sum)
		j += fmt.Sprintf("%s %d\n", s, sum)
	}
	return j
}

func TestP10_5Journals(t *testing.T) {
	p := examplePlant()
	j, e := mill.Journal(p, nil)
	wantSame(t, "Journal of the empty log", j, e, "", api.OK)
	for _, l := range [][]api.MillEntry{
		{entry(5, "tom", "start f1")}, {entry(0, "vic", "note "), entry(api.MaxTick, "vic", "note   x 5 "), entry(api.MaxTick, "vic", "note 7")}, richLog(t), coiledLog(t, p),
	} {
		want := journalByHand(l)
		j, e := mill.Journal(p, l)
		wantSame(t, "Journal", j, e, want, api.OK)
		back, n, e := mill.Recovered(p, j)
		wantSame(t, "Recovered", back, e, l, api.OK)
		wantSame(t, "its bytes", n, e, len(want), api.OK)
	}
	first, second := "5 tom start f1", "6 tom start f2"
	sum, _ := mill.SumOf(first, 0)
	next, _ := mill.SumOf(second, sum)
	j, e = mill.Journal(p, []api.MillEntry{entry(5, "tom", "start f1"), entry(6, "tom", "start f2")})
	wantSame(t, "Journal", j, e, fmt.Sprintf("%s %d\n%s %d\n", first, sum, second, next), api.OK)
	j, e = mill.Journal(p, []api.MillEntry{entry(5, "tom", "thread")})
	wantSame(t, "Journal of a wrong log", j, e, "", api.ErrState)
	p.Passes = ""
	j, e = mill.Journal(p, []api.MillEntry{entry(5, "tom", "thread")})
	wantSame(t, "Journal of a wrong plant", j, e, "", api.ErrSyntax)
}

// wantRecovered wants so many entries of a log from a string.
func wantRecovered(t *testing.T, p api.MillPlant, s string, l []api.MillEntry) {
	t.Helper()
	back, n, e := mill.Recovered(p, s)
	wantSame(t, "Recovered", back, e, l, api.OK)
	wantSame(t, "its bytes", n, e, len(journalByHand(l)), api.OK)
}

func TestP10_5Recovered(t *testing.T) {
	p := examplePlant()
	l := coiledLog(t, p)
	j := journalByHand(l)
	for _, behind := range []string{"", "\n", " ", "5 tom", "5 tom note \n", "\x00\xff\n", journalByHand(l[:1])} {
		wantRecovered(t, p, j+behind, l)
	}
	for _, s := range []string{"", "\n", "\n\n" + j, " " + j, "x", "5\n", "5 tom\n", "5 tom note\n", "0\n", "98\n", " 1\n", "  \n", "   \n", j[1:], strings.ToUpper(j)} {
		wantRecovered(t, p, s, nil)
	}
	sum := func(s string) string { return fmt.Sprintf("%s %d\n", s, sumByHand(s, 0)) }
	wantRecovered(t, p, sum("5 tom start f1"), []api.MillEntry{entry(5, "tom", "start f1")})
	wantRecovered(t, p, sum("0 vic note "), []api.MillEntry{entry(0, "vic", "note ")})
	for _, s := range []string{
		sum("05 tom start f1"), sum("+5 tom start f1"), sum("-0 tom start f1"), sum("-1 tom start f1"), sum(" 5 tom start f1"), sum("5  tom start f1"), sum("5 tom  start f1"), sum("5 tom start f1 "), sum("x tom start f1"), sum("1000000000001 tom start f1"), sum("99999999999999999999 tom start f1"),
		sum("5 eve start f1"), sum("5 vic start f1"), sum("5 tom thread"), sum("5 tom stop f1"), sum("5 tom"), sum("5"), sum(""), sum("5 tom start f1\r"), sum("5 tom note \x7f"), sum("5 tom note " + strings.Repeat("x", 296)),
		strings.Replace(sum("5 tom start f1"), " f1 ", " f1 0", 1), strings.Replace(sum("5 tom start f1"), " f1 ", " f1 +", 1), strings.Replace(sum("5 tom start f1"), "\n", " \n", 1), strings.Replace(sum("5 tom start f1"), "\n", "\r\n", 1),
	} {
		wantRecovered(t, p, s, nil)
	}
}

// TestP10_5Chained has lines with right sums, but after another line.
func TestP10_5Chained(t *testing.T) {
	p := examplePlant()
	a, b := entry(5, "tom", "start f1"), entry(5, "tom", "start f2")
	both := journalByHand([]api.MillEntry{a, b})
	wantRecovered(t, p, both, []api.MillEntry{a, b})
	wantRecovered(t, p, journalByHand([]api.MillEntry{a})+journalByHand([]api.MillEntry{b}), []api.MillEntry{a})
	wantRecovered(t, p, strings.SplitAfter(both, "\n")[1], nil)
	lines := strings.SplitAfter(journalByHand(coiledLog(t, p)), "\n")
	wantRecovered(t, p, strings.Join(lines[:3], "")+strings.Join(lines[4:], ""), coiledLog(t, p)[:3])
}

// TestP10_5NotValid has a journal of entries that are no valid log: what leads to the
// first wrong one is recovered.
func TestP10_5NotValid(t *testing.T) {
	p := examplePlant()
	l := []api.MillEntry{entry(5, "tom", "start f1"), entry(4, "tom", "start f2")}
	wantRecovered(t, p, journalByHand(l), l[:1])
	l = []api.MillEntry{entry(5, "tom", "start f1"), entry(5, "tom", "start f1"), entry(5, "tom", "start f2")}
	wantRecovered(t, p, journalByHand(l), l[:1])
	for range 70 {
		l = append(l[:1:1], append([]api.MillEntry{entry(5, "tom", "note x")}, l[1:]...)...)
	}
	wantRecovered(t, p, journalByHand(l), l[:60])
}

func TestP10_5LargeStrings(t *testing.T) {
	p := examplePlant()
	l := richLog(t)
	j := journalByHand(l)
	wantRecovered(t, p, j+strings.Repeat("x", 60000-len(j)), l)
	wantRecovered(t, p, j+strings.Repeat("\n", 60000-len(j)), l)
	back, n, e := mill.Recovered(p, j+strings.Repeat("x", 60001-len(j)))
	wantSame(t, "Recovered", back, e, nil, api.ErrLarge)
	wantSame(t, "its bytes", n, e, 0, api.ErrLarge)
	p.Stands = nil
	back, n, e = mill.Recovered(p, strings.Repeat("x", 60001))
	wantSame(t, "Recovered", back, e, nil, api.ErrShape)
	wantSame(t, "its bytes", n, e, 0, api.ErrShape)
}

// TestP10_14AtAnyCut cuts journals, and changes each of their bytes.
func TestP10_14AtAnyCut(t *testing.T) {
	p := examplePlant()
	l := coiledLog(t, p)
	j := journalOf(t, p, l)
	for cut := range len(j) + 1 {
		wantRecovered(t, p, j[:cut], l[:strings.Count(j[:cut], "\n")])
	}
	for i := range len(j) {
		changed := j[:i] + string([]byte{j[i] ^ 1}) + j[i+1:]
		wantRecovered(t, p, changed, l[:strings.Count(j[:i], "\n")])
	}
}

func TestP10_14RandomLogs(t *testing.T) {
	rnd := rand.New(rand.NewSource(1014))
	p := longPlant()
	for range 100 {
		l := randomHand(rnd, 200, nil).log
		j := journalOf(t, p, l)
		wantSame(t, "Journal", j, api.OK, journalByHand(l), api.OK)
		wantRecovered(t, p, j, l)
		cut := rnd.Intn(len(j) + 1)
		wantRecovered(t, p, j[:cut], l[:strings.Count(j[:cut], "\n")])
	}
}
