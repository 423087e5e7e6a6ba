package mill_test

import (
	"fmt"
	"math/rand"
	"strings"
	"testing"

	"cobble/api"
	"cobble/mill"
	"cobble/trace"
)

// wantAnswers wants the answers to questions.
func wantAnswers(t *testing.T, p api.MillPlant, l []api.MillEntry, want map[string]string) {
	t.Helper()
	for question, answer := range want {
		s, e := mill.Answer(p, l, question)
		wantSame(t, question, s, e, answer, api.OK)
	}
}

func TestP10_6Answers(t *testing.T) {
	p := examplePlant()
	wantAnswers(t, p, nil, map[string]string{"count": "0", "strip": "-", "running": "-", "loaded": "-", "orders": "-", "slabs": "-", "coils": "-", "version": "0 0"})
	l := richLog(t)
	wantAnswers(t, p, l, map[string]string{
		"count": fmt.Sprint(len(l)), "strip": "s3", "running": "f1,f2", "loaded": "f1,f2", "orders": "o1,o2,o3", "slabs": "s1,s2,s3,s4", "coils": "c1,c2", "version": "2 0",
		"place s1": "coiled", "place s2": "coiled", "place s3": "line", "place s4": "yard", "report c1": "s1 3000;1 300 100 300 yes;0 700 700 2100 no", "report c2": "s2 7600/3;1 50 50/3 - no",
	})
	l = chargedLog(t, p)
	wantAnswers(t, p, l, map[string]string{"place s1": "furnace", "strip": "-", "loaded": "-", "running": "f1,f2"})
	l = logOf(t, p, l, "tom draw s1")
	wantAnswers(t, p, l, map[string]string{"place s1": "line", "strip": "s1", "loaded": "-"})
	l = logOf(t, p, l, "tom thread", "tom leave", "tom thread", "tom stop f1")
	wantAnswers(t, p, l, map[string]string{"loaded": "f2", "running": "f2"})
	wantAnswers(t, p, logOf(t, p, l, "tom leave"), map[string]string{"place s1": "line", "strip": "s1", "loaded": "-"})
	l = logOf(t, p, l, "tom cobble f2", "tom stop f2", "tom clear", "mia forget 3 900")
	wantAnswers(t, p, l, map[string]string{"place s1": "scrapped", "strip": "-", "loaded": "-", "running": "-", "coils": "-", "version": "1 3"})
}

func TestP10_6Questions(t *testing.T) {
	p := examplePlant()
	l := richLog(t)
	for want, questions := range map[api.Errno][]string{
		api.ErrSyntax:  {"", " ", "x", "Count", "count ", " count", "count 1", "strip ", "strip s3", "running f1", "loaded ", "orders ", "slabs s1", "coils ", "version 1", "place", "report", "places s1", "reports c1", " place s1", "order o1", "\x00"},
		api.ErrName:    {"place ", "place  s1", "place s1 ", "place 1", "place s1 s2", "place abcdefghijklm", "report ", "report  c1", "report c1 ", "report 1", "report c_1"},
		api.ErrMissing: {"place s5", "place o1", "place c1", "place S1", "report c3", "report s1", "report C1"},
	} {
		for _, question := range questions {
			s, e := mill.Answer(p, l, question)
			wantSame(t, question, s, e, "", want)
		}
	}
	s, e := mill.Answer(p, append(l, entry(0, "tom", "thread")), "x")
	wantSame(t, "Answer about a wrong log", s, e, "", api.ErrOrder)
	p.Stands[0] = "1"
	s, e = mill.Answer(p, append(l, entry(0, "tom", "thread")), "x")
	wantSame(t, "Answer about a wrong plant", s, e, "", api.ErrName)
}

// answerByHand is the answer to a question, and its error.
func (h *hand) answerByHand(question string) (string, api.Errno) {
	list := func(l []string) (string, api.Errno) {
		if len(l) == 0 {
			return "-", api.OK
		}
		return strings.Join(l, ","), api.OK
	}
	var running, loaded []string
	for _, stand := range h.p.Stands {
		if h.running[stand] {
			running = append(running, stand)
		}
		if h.loaded(stand) {
			loaded = append(loaded, stand)
		}
	}
	switch question {
	case "count":
		return fmt.Sprint(len(h.log)), api.OK
	case "strip":
		return list(strings.Fields(h.strip))
	case "running":
		return list(running)
	case "loaded":
		return list(loaded)
	case "orders":
		return list(h.orders)
	case "slabs":
		return list(h.slabs)
	case "coils":
		return list(h.coils)
	case "version":
		return fmt.Sprint(h.correction.Version, " ", h.correction.At), api.OK
	}
	name := strings.TrimPrefix(strings.TrimPrefix(question, "place "), "report ")
	if has(h.slabs, name) && question != "report "+name {
		return h.place[name], api.OK
	}
	if has(h.coils, name) && question != "place "+name {
		return trace.ReportOf(h.course[name], h.readings[name])
	}
	return "", api.ErrMissing
}

func TestP10_6ByHand(t *testing.T) {
	rnd := rand.New(rand.NewSource(106))
	p := longPlant()
	for range 200 {
		h := randomHand(rnd, rnd.Intn(300), nil)
		for _, question := range []string{"count", "strip", "running", "loaded", "orders", "slabs", "coils", "version", "place s1", "place s3", "place s5", "place c1", "report c1", "report c2", "report s1"} {
			want, wrong := h.answerByHand(question)
			s, e := mill.Answer(p, h.log, question)
			wantSame(t, question, s, e, want, wrong)
		}
	}
}
