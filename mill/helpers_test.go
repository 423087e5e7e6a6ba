package mill_test

import (
	"math/rand"
	"reflect"
	"strings"
	"testing"

	"cobble/api"
	"cobble/mill"
)

// The values of the chapter's examples; tests change their own copies of them.

const (
	twoStands   = "10 100 60 10000 10000 9000 2 3 7 8 ; 300 20000 400000 0 100 ; 300 20000 400000 0 100"
	threeStands = twoStands + " ; 300 20000 400000 0 100"
	exampleGain = "1/2 1/4 4 8000@200 9000@100 10000@60"
)

// examplePlant is that of the chapter's examples, with a viewer more.
func examplePlant() api.MillPlant {
	return api.MillPlant{
		People: []api.MillPerson{{Name: "ola", Role: api.MillPlanner}, {Name: "tom", Role: api.MillOperator}, {Name: "mia", Role: api.MillMaster}, {Name: "vic", Role: api.MillViewer}},
		Stands: []string{"f1", "f2"},
		Passes: twoStands,
		Model:  exampleGain,
	}
}

// longPlant has three stands, whose names are not in alphabetical order.
func longPlant() api.MillPlant {
	p := examplePlant()
	p.Stands, p.Passes = []string{"r3", "a1", "f2"}, threeStands
	return p
}

func entry(at int, by, text string) api.MillEntry {
	return api.MillEntry{At: at, By: by, Text: text}
}

// The texts of the chapter's examples.
const (
	orderText    = "order o1 grade 1 thickness 3000 um width 1200 mm"
	slabText     = "slab s1 1 200000 1250 1000"
	scheduleText = "schedule o1 a 80 60"
	coilText     = "coil c1 s1;500*30,500*30;p 10,10"
	learnText    = "learn c1 9000@120 8000@260"
)

// said is an entry by a person, at the time of a log of such a length.
func said(length int, words string) api.MillEntry {
	by, text, _ := strings.Cut(words, " ")
	return entry(length, by, text)
}

// logOf is a log of entries that all must be accepted. Each of them is a person and a
// text.
func logOf(t *testing.T, p api.MillPlant, l []api.MillEntry, entries ...string) []api.MillEntry {
	t.Helper()
	for _, words := range entries {
		longer, e := mill.Appended(p, l, said(len(l), words))
		if e != api.OK {
			t.Fatalf("%s: %v", words, e)
		}
		l = longer
	}
	return l
}

// wantRefused wants an error of a further entry, a person and a text.
func wantRefused(t *testing.T, p api.MillPlant, l []api.MillEntry, e api.Errno, entries ...string) {
	t.Helper()
	for _, words := range entries {
		longer, f := mill.Appended(p, l, said(len(l), words))
		if f != e || len(longer) > 0 {
			t.Errorf("%s: %v in place of %v", words, f, e)
		}
	}
}

// chargedLog ends with the slab s1 in the furnace, and all stands running.
func chargedLog(t *testing.T, p api.MillPlant) []api.MillEntry {
	t.Helper()
	schedule := scheduleText + strings.Repeat(" 60", len(p.Stands)-2)
	l := logOf(t, p, nil, "ola "+orderText, "ola "+slabText, "ola assign s1 o1", "ola "+schedule, "tom charge s1")
	for _, stand := range p.Stands {
		l = logOf(t, p, l, "tom start "+stand)
	}
	return l
}

// threadedLog ends with the strip of s1 in so many stands.
func threadedLog(t *testing.T, p api.MillPlant, stands int) []api.MillEntry {
	t.Helper()
	l := logOf(t, p, chargedLog(t, p), "tom draw s1")
	for range stands {
		l = logOf(t, p, l, "tom thread")
	}
	return l
}

// leftLog ends with the strip of s1 behind all stands.
func leftLog(t *testing.T, p api.MillPlant) []api.MillEntry {
	t.Helper()
	l := threadedLog(t, p, len(p.Stands))
	for range p.Stands {
		l = logOf(t, p, l, "tom leave")
	}
	return l
}

// coiledLog ends with the coil c1 of s1.
func coiledLog(t *testing.T, p api.MillPlant) []api.MillEntry {
	t.Helper()
	return logOf(t, p, leftLog(t, p), "tom "+coilText)
}

// richLog has most of what can be in a log of the example plant.
func richLog(t *testing.T) []api.MillEntry {
	t.Helper()
	p := examplePlant()
	l := logOf(t, p, coiledLog(t, p),
		"vic note ", "ola order o2 grade 1 thickness 3 mm width 1200 mm due 5", "ola order o3 grade 2 thickness 3 mm width 1200 mm",
		"ola slab s2 1 200000 1250 900", "ola slab s3 1 200000 1200 800", "ola slab s4 2 200000 1200 800", "ola assign s2 o2", "ola assign s3 o1",
		"ola schedule o2 b 80 60", "tom charge s2", "tom charge s3", "tom read c1 1 300 yes", "tom read c1 0 700 no", "tom "+learnText, "mia forget 0 1",
		"tom draw s2", "tom thread", "tom leave", "tom thread", "tom leave", "tom coil c2 s2;900*60;p 20;c 100 2000;p 15", "tom read c2 1 50 no", "mia ship c2",
		"tom draw s3", "tom stop f2", "tom rolls f2 1800", "tom start f2", "tom thread", "tom thread", "tom raise f1")
	return l
}

func stateOf(t *testing.T, p api.MillPlant, l []api.MillEntry) api.MillState {
	t.Helper()
	s, e := mill.StateOf(p, l)
	if e != api.OK {
		t.Fatal(e)
	}
	return s
}

func journalOf(t *testing.T, p api.MillPlant, l []api.MillEntry) string {
	t.Helper()
	j, e := mill.Journal(p, l)
	if e != api.OK {
		t.Fatal(e)
	}
	return j
}

// isLoaded tells of a line whether a stand is loaded.
func isLoaded(l api.MillLine, stand int) bool {
	return stand >= l.Tail && stand < l.Head
}

// step is an error, with an index, and how the fault is mended.
type step struct {
	index int
	want  api.Errno
	mend  func()
}

// wantErrors mends one fault after another, and wants the error of each.
func wantErrors(t *testing.T, call func() (int, api.Errno), steps ...step) {
	t.Helper()
	for n, s := range steps {
		if i, e := call(); i != s.index || e != s.want {
			t.Errorf("step %d: %d, %v in place of %d, %v", n, i, e, s.index, s.want)
		}
		s.mend()
	}
	if i, e := call(); i != 0 || e != api.OK {
		t.Errorf("mended: %d, %v", i, e)
	}
}

// copied is a value that shares no memory with x, and in which empty slices are
// nil ones.
func copied(x reflect.Value) reflect.Value {
	y := reflect.New(x.Type()).Elem()
	switch x.Kind() {
	case reflect.Slice:
		for i := range x.Len() {
			y = reflect.Append(y, copied(x.Index(i)))
		}
	case reflect.Struct:
		for i := range x.NumField() {
			if y.Field(i).CanSet() {
				y.Field(i).Set(copied(x.Field(i)))
			}
		}
	default:
		y.Set(x)
	}
	return y
}

func copyOf[T any](x T) T {
	return copied(reflect.ValueOf(x)).Interface().(T)
}

func alike(a, b any) bool {
	return reflect.DeepEqual(copied(reflect.ValueOf(a)).Interface(), copied(reflect.ValueOf(b)).Interface())
}

// wantSame wants a result and an error of a call.
func wantSame[T any](t *testing.T, what string, got T, e api.Errno, want T, f api.Errno) {
	t.Helper()
	if !alike(got, want) || e != f {
		t.Errorf("%s: %v, %v in place of %v, %v", what, got, e, want, f)
	}
}

// wantSeen wants that each of some kinds was seen at least so many times.
func wantSeen[T comparable](t *testing.T, seen map[T]int, least int, kinds ...T) {
	t.Helper()
	for _, kind := range kinds {
		if seen[kind] < least {
			t.Error("too few of a kind", kind, seen)
		}
	}
}

func oneOf[T any](rnd *rand.Rand, l ...T) T {
	return l[rnd.Intn(len(l))]
}
