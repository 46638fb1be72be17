package topo

import (
	"math"
	"slices"
	"testing"

	"lineside/api"
)

// The rules of the chapter written anew, on ends of edges and without sets. They
// know nothing of package topo.

// edgeIs reports whether the edge n of l exists.
func edgeIs(l api.Topo, n int) bool { return n >= 0 && n < len(l.Edges) }

// endIs reports whether an end of l exists.
func endIs(l api.Topo, e api.End) bool { return edgeIs(l, e.Edge) && (e.At == 0 || e.At == 1) }

// endsOf returns the end at which s enters and the one at which it leaves.
func endsOf(s api.Step) (in, out api.End) {
	in, out = api.End{Edge: s.Edge, At: 0}, api.End{Edge: s.Edge, At: 1}
	if s.Rev {
		return out, in
	}
	return in, out
}

// mayFollow reports whether b may follow a.
func mayFollow(l api.Topo, a, b api.Step) bool {
	_, out := endsOf(a)
	in, _ := endsOf(b)
	for _, j := range l.Joints {
		if endIs(l, out) && endIs(l, in) && (j.A == out && j.B == in || j.A == in && j.B == out) {
			return true
		}
	}
	return false
}

// wayEnds reports whether a step of path may not follow the previous one.
func wayEnds(l api.Topo, path []api.Step) bool {
	for i := range path {
		if i > 0 && !mayFollow(l, path[i-1], path[i]) {
			return true
		}
	}
	return false
}

func wantAfter(l api.Topo, s api.Step) []api.Step {
	var list []api.Step
	for n := range l.Edges {
		for _, b := range []api.Step{{Edge: n}, {Edge: n, Rev: true}} {
			if mayFollow(l, s, b) {
				list = append(list, b)
			}
		}
	}
	return list
}

func wantBack(path []api.Step) []api.Step {
	back := make([]api.Step, len(path))
	for i, s := range path {
		back[len(path)-1-i] = api.Step{Edge: s.Edge, Rev: !s.Rev}
	}
	return back
}

func wantLength(l api.Topo, path []api.Step) (int, api.Errno) {
	if len(path) == 0 || len(path) > 40 {
		return 0, 1
	}
	sum := 0
	for _, s := range path {
		if !edgeIs(l, s.Edge) {
			return 0, 1
		}
		sum += l.Edges[s.Edge]
	}
	if wayEnds(l, path) {
		return 0, 141
	}
	return sum, 0
}

func wantJoint(l api.Topo, i int) api.Errno {
	j := l.Joints[i]
	if !endIs(l, j.A) || !endIs(l, j.B) || j.A.Edge == j.B.Edge && j.A.At == j.B.At {
		return 1
	}
	for k := range i {
		if e := l.Joints[k]; e.A == j.A && e.B == j.B || e.A == j.B && e.B == j.A {
			return 5
		}
	}
	return 0
}

func wantBal(l api.Topo, i int) api.Errno {
	b := l.Bals[i]
	if b.ID < 0 || b.ID > 16777214 || !edgeIs(l, b.Edge) || b.At < 0 || b.At > l.Edges[b.Edge] {
		return 1
	}
	for k := range i {
		if l.Bals[k].ID == b.ID {
			return 5
		}
	}
	return 0
}

func wantRoute(l api.Topo, i int) api.Errno {
	r := l.Routes[i]
	if r.ID < 1 || len(r.Path) < 1 || len(r.Path) > 8 {
		return 1
	}
	length, bare := 0, false
	for k, s := range r.Path {
		if !edgeIs(l, s.Edge) {
			return 1
		}
		for m := range k {
			if r.Path[m].Edge == s.Edge {
				return 1
			}
		}
		length += l.Edges[s.Edge]
		has := false
		for _, b := range l.Bals {
			has = has || b.Edge == s.Edge
		}
		bare = bare || !has
	}
	switch {
	case wayEnds(l, r.Path):
		return 141
	case r.Gap < 0 || r.Gap >= length || r.Timer < 1 || r.Timer > 1000:
		return 1
	case bare:
		return 4
	}
	for k := range i {
		if l.Routes[k].ID == r.ID {
			return 5
		}
	}
	return 0
}

func wantCheck(l api.Topo) api.Errno {
	if len(l.Edges) > 40 || len(l.Joints) > 80 || len(l.Bals) > 80 || len(l.Routes) > 30 {
		return 2
	}
	var errs []api.Errno
	for _, n := range l.Edges {
		if n < 1 || n > 1000000 {
			errs = append(errs, 1)
		}
	}
	for i := range l.Joints {
		errs = append(errs, wantJoint(l, i))
	}
	for i := range l.Bals {
		errs = append(errs, wantBal(l, i))
	}
	for i := range l.Routes {
		errs = append(errs, wantRoute(l, i))
	}
	for _, err := range errs {
		if err != 0 {
			return err
		}
	}
	return 0
}

// Calls, their results, and what they share.

func sameRoute(a, b api.Route) bool {
	return a.ID == b.ID && slices.Equal(a.Path, b.Path) && a.Gap == b.Gap && a.Timer == b.Timer
}

func sameTopo(a, b api.Topo) bool {
	return slices.Equal(a.Edges, b.Edges) && slices.Equal(a.Joints, b.Joints) &&
		slices.Equal(a.Bals, b.Bals) && slices.EqualFunc(a.Routes, b.Routes, sameRoute)
}

// roomyList returns a copy of list with room behind it, which holds something.
func roomyList[T any](list []T, behind T) []T {
	return slices.Clip(append(slices.Clone(list), behind, behind))[:len(list)]
}

func roomyPath(path []api.Step) []api.Step { return roomyList(path, api.Step{Edge: 77, Rev: true}) }

// roomyTopo returns a copy of l that shares nothing with it, with room behind all
// of its lists.
func roomyTopo(l api.Topo) api.Topo {
	m := api.Topo{Edges: roomyList(l.Edges, 77)}
	m.Joints = roomyList(l.Joints, api.Joint{A: api.End{Edge: 77}, B: api.End{At: 77}})
	m.Bals = roomyList(l.Bals, api.Bal{ID: 77, Edge: 78, At: 79})
	m.Routes = roomyList(l.Routes, api.Route{ID: 77, Gap: 78, Timer: 79})
	for i := range wholeList(m.Routes) {
		r := &wholeList(m.Routes)[i]
		r.Path = roomyPath(r.Path)
	}
	return m
}

// wholeList returns list with the room behind it.
func wholeList[T any](list []T) []T { return list[:cap(list)] }

// wholeTopo returns l with the room behind its lists.
func wholeTopo(l api.Topo) api.Topo {
	m := api.Topo{Edges: wholeList(l.Edges), Joints: wholeList(l.Joints), Bals: wholeList(l.Bals)}
	m.Routes = slices.Clone(wholeList(l.Routes))
	for i, r := range m.Routes {
		m.Routes[i].Path = wholeList(r.Path)
	}
	return m
}

// copyTopo returns a copy of l that shares nothing with it.
func copyTopo(l api.Topo) api.Topo {
	m := api.Topo{Edges: slices.Clone(l.Edges), Joints: slices.Clone(l.Joints), Bals: slices.Clone(l.Bals)}
	for _, r := range l.Routes {
		r.Path = slices.Clone(r.Path)
		m.Routes = append(m.Routes, r)
	}
	return m
}

// given is a layout and a path that are handed in, and what they were before.
type given struct {
	l, lBefore       api.Topo
	path, pathBefore []api.Step
}

func handIn(l api.Topo, path []api.Step) given {
	return given{roomyTopo(l), wholeTopo(roomyTopo(l)), roomyPath(path), wholeList(roomyPath(path))}
}

// expectKept checks that what was handed in is as it was, also after the steps
// of a result were written over.
func (g given) expectKept(t *testing.T, what string, steps []api.Step) {
	t.Helper()
	for i := range wholeList(steps) {
		wholeList(steps)[i] = api.Step{Edge: -7, Rev: true}
	}
	if !sameTopo(wholeTopo(g.l), g.lBefore) || !slices.Equal(wholeList(g.path), g.pathBefore) {
		t.Fatalf("%s changes what it is given, or shares memory with it: %+v %+v, before %+v %+v", what, wholeTopo(g.l), g.path, g.lBefore, g.pathBefore)
	}
}

func expectCheck(t *testing.T, l api.Topo, want api.Errno) {
	t.Helper()
	if other := wantCheck(l); other != want {
		t.Fatalf("the chapter says %d of %+v, want %d", other, l, want)
	}
	g := handIn(l, nil)
	if have := Check(g.l); have != want {
		t.Fatalf("Check(%+v): %d, want %d", l, have, want)
	}
	g.expectKept(t, "Check", nil)
}

func expectAfter(t *testing.T, l api.Topo, s api.Step, want ...api.Step) {
	t.Helper()
	if other := wantAfter(l, s); !slices.Equal(other, want) {
		t.Fatalf("the chapter says %+v of the steps after %+v of %+v, want %+v", other, s, l, want)
	}
	g := handIn(l, nil)
	for range 2 {
		have := After(g.l, s)
		if !slices.Equal(have, want) {
			t.Fatalf("After(%+v, %+v): %+v, want %+v", l, s, have, want)
		}
		g.expectKept(t, "After", have)
	}
}

func expectBack(t *testing.T, path []api.Step, want ...api.Step) {
	t.Helper()
	if other := wantBack(path); !slices.Equal(other, want) {
		t.Fatalf("the chapter says %+v of the way back over %+v, want %+v", other, path, want)
	}
	g := handIn(api.Topo{}, path)
	for range 2 {
		have := Back(g.path)
		if !slices.Equal(have, want) {
			t.Fatalf("Back(%+v): %+v, want %+v", path, have, want)
		}
		g.expectKept(t, "Back", have)
	}
}

func expectLength(t *testing.T, l api.Topo, path []api.Step, want int, wantErr api.Errno) {
	t.Helper()
	if n, err := wantLength(l, path); n != want || err != wantErr {
		t.Fatalf("the chapter says %d %d of the length of %+v of %+v, want %d %d", n, err, path, l, want, wantErr)
	}
	g := handIn(l, path)
	if n, err := Length(g.l, g.path); n != want || err != wantErr {
		t.Fatalf("Length(%+v, %+v): %d %d, want %d %d", l, path, n, err, want, wantErr)
	}
	g.expectKept(t, "Length", nil)
}

// expectBal checks that at is the position of the balise group that Bal finds;
// -1 stands for none.
func expectBal(t *testing.T, l api.Topo, id, at int) {
	t.Helper()
	var want api.Bal
	if at >= 0 {
		want = l.Bals[at]
	}
	g := handIn(l, nil)
	if have, ok := Bal(g.l, id); have != want || ok != (at >= 0) {
		t.Fatalf("Bal(%+v, %d): %+v %v, want %+v", l, id, have, ok, want)
	}
	g.expectKept(t, "Bal", nil)
}

// expectRoute checks that at is the position of the route that Route finds; -1
// stands for none.
func expectRoute(t *testing.T, l api.Topo, id, at int) {
	t.Helper()
	var want api.Route
	if at >= 0 {
		want = l.Routes[at]
	}
	g := handIn(l, nil)
	for range 2 {
		have, ok := Route(g.l, id)
		if !sameRoute(have, want) || ok != (at >= 0) {
			t.Fatalf("Route(%+v, %d): %+v %v, want %+v", l, id, have, ok, want)
		}
		g.expectKept(t, "Route", have.Path)
	}
}

// balAt and routeAt return the position of the first one with an ID, or -1.
func balAt(l api.Topo, id int) int {
	for i, b := range l.Bals {
		if b.ID == id {
			return i
		}
	}
	return -1
}

func routeAt(l api.Topo, id int) int {
	for i, r := range l.Routes {
		if r.ID == id {
			return i
		}
	}
	return -1
}

// expectCalls holds all calls against the chapter.
func expectCalls(t *testing.T, l api.Topo, paths ...[]api.Step) {
	t.Helper()
	expectCheck(t, l, wantCheck(l))
	for n := -1; n <= len(l.Edges); n++ {
		for _, s := range []api.Step{{Edge: n}, {Edge: n, Rev: true}} {
			expectAfter(t, l, s, wantAfter(l, s)...)
		}
	}
	for _, path := range paths {
		expectBack(t, path, wantBack(path)...)
		n, err := wantLength(l, path)
		expectLength(t, l, path, n, err)
	}
	for id := -1; id < 20; id++ {
		expectBal(t, l, id, balAt(l, id))
		expectRoute(t, l, id, routeAt(l, id))
	}
}

// Layouts and paths to begin with.

// on and back write steps, and over a path of steps without Rev.
func on(edge int) api.Step { return api.Step{Edge: edge} }

func back(edge int) api.Step { return api.Step{Edge: edge, Rev: true} }

func over(edges ...int) []api.Step {
	var path []api.Step
	for _, n := range edges {
		path = append(path, on(n))
	}
	return path
}

// joined writes a joint: which edge, and At which of its ends, twice.
func joined(a, atA, b, atB int) api.Joint {
	return api.Joint{A: api.End{Edge: a, At: atA}, B: api.End{Edge: b, At: atB}}
}

func turned(j api.Joint) api.Joint { return api.Joint{A: j.B, B: j.A} }

// example returns the layout of the chapter's example, with balise groups and a
// route.
func example() api.Topo {
	return api.Topo{
		Edges:  []int{100, 200, 300},
		Joints: []api.Joint{joined(0, 1, 1, 0), joined(0, 1, 2, 1)},
		Bals:   []api.Bal{{ID: 7}, {ID: 8, Edge: 1, At: 50}, {ID: 9, Edge: 2, At: 300}},
		Routes: []api.Route{{ID: 1, Path: over(0, 1), Gap: 10, Timer: 60}},
	}
}

// line returns edges of the lengths 100, 200 and so on, one behind the other,
// each with a balise group at its end, whose ID is 10 times its number.
func line(n int) api.Topo {
	var l api.Topo
	for i := range n {
		l.Edges = append(l.Edges, 100*i+100)
		l.Bals = append(l.Bals, api.Bal{ID: 10 * i, Edge: i, At: 100*i + 100})
		if i > 0 {
			l.Joints = append(l.Joints, joined(i-1, 1, i, 0))
		}
	}
	return l
}

// routed returns line(n) with one route.
func routed(n int, path ...api.Step) api.Topo {
	l := line(n)
	l.Routes = []api.Route{{ID: 5, Path: path, Gap: 10, Timer: 60}}
	return l
}

// ring returns edges that lead round in a ring.
func ring(n int) api.Topo {
	l := line(n)
	l.Joints = append(l.Joints, joined(n-1, 1, 0, 0))
	return l
}

// fullest returns a valid layout that has as much of all as may be.
func fullest() api.Topo {
	l := ring(40)
	for i := range 40 {
		l.Joints = append(l.Joints, joined(i, 1, (i+2)%40, 0))
		l.Bals = append(l.Bals, api.Bal{ID: 1000 + i, Edge: i, At: 3})
	}
	for i := range 30 {
		var path []api.Step
		for k := range 8 {
			path = append(path, on((i+k)%40))
		}
		l.Routes = append(l.Routes, api.Route{ID: i + 1, Path: path, Timer: 1000})
	}
	return l
}

// limits are the numbers that a field may be.
type limits struct{ least, most int }

// inside returns numbers that the field may be.
func (m limits) inside() []int {
	return []int{m.least, min(m.least+1, m.most), m.least + (m.most-m.least)/2, max(m.most-1, m.least), m.most}
}

// outside returns numbers that the field may not be. Cut to 32 bits, some of
// them would be inside.
func (m limits) outside() []int {
	return []int{
		math.MinInt, math.MinInt + m.least + 1, -1 << 62, -1<<32 + m.least, -1<<32 + m.most, -m.most - 2, m.least - 2, m.least - 1,
		m.most + 1, m.most + 2, 2*m.most + 2, 1<<32 + m.least, 1<<32 + m.most, 1 << 62, math.MaxInt - 1, math.MaxInt,
	}
}

// The limits and errors of the chapter are those of api.

func TestLimits(t *testing.T) {
	have := []int{api.MaxEdges, api.MaxJoints, api.MaxBals, api.MaxRoutes, api.MaxPath, api.MaxLen, api.MaxTimer,
		int(api.OK), int(api.ErrArg), int(api.ErrLong), int(api.ErrNone), int(api.ErrThere), int(api.ErrEnd)}
	if want := []int{40, 80, 80, 30, 8, 1000000, 1000, 0, 1, 2, 4, 5, 141}; !slices.Equal(have, want) {
		t.Errorf("%v, want %v", have, want)
	}
}

// The chapter's examples.

func TestExamples(t *testing.T) {
	l := example()
	expectCheck(t, l, api.OK)
	expectAfter(t, l, on(0), on(1), back(2))
	expectLength(t, l, over(0, 1), 300, api.OK)
	expectAfter(t, l, back(1), back(0))
}

// P13.1

func TestCheckOfValidLayouts(t *testing.T) {
	expectCheck(t, api.Topo{}, api.OK)
	expectCheck(t, api.Topo{Edges: []int{}, Joints: []api.Joint{}, Bals: []api.Bal{}, Routes: []api.Route{}}, api.OK)
	expectCheck(t, api.Topo{Edges: []int{5}}, api.OK)
	expectCheck(t, example(), api.OK)
	for n := 1; n <= 40; n++ {
		expectCheck(t, line(n), api.OK)
		if n > 1 {
			expectCheck(t, ring(n), api.OK)
		}
	}
	expectCheck(t, fullest(), api.OK)
}

// tooMany are the ways to have too many things, each of which may be by itself.
var tooMany = [4]func(l *api.Topo){
	func(l *api.Topo) { l.Edges = append(l.Edges, 100) },
	func(l *api.Topo) { l.Joints = append(l.Joints, joined(0, 0, 0, 1)) },
	func(l *api.Topo) { l.Bals = append(l.Bals, api.Bal{ID: 5000}) },
	func(l *api.Topo) { l.Routes = append(l.Routes, api.Route{ID: 5000, Path: over(0), Timer: 1}) },
}

func TestCheckOfTooMany(t *testing.T) {
	for _, more := range tooMany {
		l := fullest()
		more(&l)
		expectCheck(t, l, api.ErrLong)
	}
	for _, n := range []int{41, 42, 80, 256, 296, 1000} {
		expectCheck(t, api.Topo{Edges: slices.Repeat([]int{9}, n)}, api.ErrLong)
	}
	l := fullest()
	expectCheck(t, api.Topo{Edges: l.Edges, Joints: slices.Repeat(l.Joints, 2)}, api.ErrLong)
	expectCheck(t, api.Topo{Edges: l.Edges, Bals: slices.Repeat(l.Bals, 2)}, api.ErrLong)
	l.Routes = slices.Repeat(l.Routes, 2)
	expectCheck(t, l, api.ErrLong)
}

// One less than too many is not too many.
func TestCheckOfNearlyTooMany(t *testing.T) {
	l := fullest()
	l.Joints = l.Joints[:79]
	expectCheck(t, l, api.OK)
	tooMany[1](&l)
	expectCheck(t, l, api.OK)
	l.Bals = l.Bals[:79]
	expectCheck(t, l, api.OK)
	tooMany[2](&l)
	expectCheck(t, l, api.OK)
	l.Routes = l.Routes[:29]
	expectCheck(t, l, api.OK)
	tooMany[3](&l)
	expectCheck(t, l, api.OK)
	m := line(39)
	expectCheck(t, m, api.OK)
	tooMany[0](&m)
	expectCheck(t, m, api.OK)
}

// Too many of anything is found first, whatever is wrong with all the rest.
func TestCheckOfTooManyThingsThatMayNotBe(t *testing.T) {
	for i := range tooMany {
		l := fullest()
		l.Edges[3] = 0
		l.Joints[3] = joined(-1, 0, 0, 0)
		l.Bals[3] = api.Bal{ID: -1}
		l.Routes[3] = api.Route{}
		expectCheck(t, l, api.ErrArg)
		tooMany[i](&l)
		expectCheck(t, l, api.ErrLong)
	}
	expectCheck(t, api.Topo{Edges: make([]int, 41)}, api.ErrLong)
	expectCheck(t, api.Topo{Edges: make([]int, 40)}, api.ErrArg)
	expectCheck(t, api.Topo{Joints: make([]api.Joint, 81)}, api.ErrLong)
	expectCheck(t, api.Topo{Joints: make([]api.Joint, 80)}, api.ErrArg)
	expectCheck(t, api.Topo{Bals: make([]api.Bal, 81)}, api.ErrLong)
	expectCheck(t, api.Topo{Bals: make([]api.Bal, 80)}, api.ErrArg)
	expectCheck(t, api.Topo{Routes: make([]api.Route, 31)}, api.ErrLong)
	expectCheck(t, api.Topo{Routes: make([]api.Route, 30)}, api.ErrArg)
}

var lengths = limits{1, 1000000}

func TestCheckOfLengths(t *testing.T) {
	for _, n := range []int{1, 2, 3, 40} {
		for i := range n {
			l := api.Topo{Edges: line(n).Edges, Joints: line(n).Joints}
			for _, l.Edges[i] = range lengths.inside() {
				expectCheck(t, l, api.OK)
			}
			for _, l.Edges[i] = range append(lengths.outside(), 0, -100) {
				expectCheck(t, l, api.ErrArg)
			}
		}
	}
}

// allEnds returns the ends of n edges.
func allEnds(n int) []api.End {
	var ends []api.End
	for i := range n {
		ends = append(ends, api.End{Edge: i}, api.End{Edge: i, At: 1})
	}
	return ends
}

// Every joint of two different ends may be, also that of the two ends of one
// edge; one of an end with itself may not.
func TestCheckOfOneJoint(t *testing.T) {
	for n := 1; n <= 5; n++ {
		for _, a := range allEnds(n) {
			for _, b := range allEnds(n) {
				l := line(n)
				l.Joints = []api.Joint{{A: a, B: b}}
				if a == b {
					expectCheck(t, l, api.ErrArg)
				} else {
					expectCheck(t, l, api.OK)
				}
			}
		}
	}
}

func TestCheckOfEndsThatMayNotBe(t *testing.T) {
	for _, n := range []int{1, 2, 6, 40} {
		for i := range n {
			l := ring(n)
			if n == 1 {
				l.Joints[0] = joined(0, 0, 0, 1)
			}
			j := &l.Joints[i]
			for _, field := range []*int{&j.A.Edge, &j.B.Edge} {
				kept := *field
				for _, *field = range (limits{0, n - 1}).outside() {
					expectCheck(t, l, api.ErrArg)
				}
				*field = kept
			}
			for _, field := range []*int{&j.A.At, &j.B.At} {
				kept := *field
				for _, *field = range append((limits{0, 1}).outside(), 100, 255, 256, 257) {
					expectCheck(t, l, api.ErrArg)
				}
				*field = kept
			}
			expectCheck(t, l, api.OK)
		}
	}
	expectCheck(t, api.Topo{Joints: []api.Joint{joined(0, 0, 0, 1)}}, api.ErrArg)
}

// An end that may not be is one, also where both ends of a joint are the same.
func TestCheckOfAnEndThatMayNotBeWithItself(t *testing.T) {
	for _, e := range []api.End{{Edge: 3}, {Edge: -1}, {At: 2}, {At: -1}, {Edge: 3, At: 2}} {
		l := line(3)
		l.Joints = append(l.Joints, api.Joint{A: e, B: e})
		expectCheck(t, l, api.ErrArg)
		l.Joints = append(l.Joints, api.Joint{A: e, B: e})
		expectCheck(t, l, api.ErrArg)
	}
}

// Of every two joints of the ends of two edges, those with the same ends, in
// either order, may not be both.
func TestCheckOfTwoJoints(t *testing.T) {
	ends := allEnds(3)
	for code := range 6 * 6 * 6 * 6 {
		a := api.Joint{A: ends[code%6], B: ends[code/6%6]}
		b := api.Joint{A: ends[code/36%6], B: ends[code/216]}
		l := line(3)
		l.Joints = []api.Joint{a, b}
		switch {
		case a.A == a.B || b.A == b.B:
			expectCheck(t, l, api.ErrArg)
		case a == b || a == turned(b):
			expectCheck(t, l, api.ErrThere)
		default:
			expectCheck(t, l, api.OK)
		}
	}
}

func TestCheckOfJointsGivenTwice(t *testing.T) {
	for later := range 80 {
		for earlier := range later {
			l := fullest()
			l.Routes = nil
			j := l.Joints[earlier]
			l.Joints[later] = j
			expectCheck(t, l, api.ErrThere)
			l.Joints[later] = turned(j)
			expectCheck(t, l, api.ErrThere)
			l.Joints[earlier], l.Joints[later] = turned(j), turned(j)
			expectCheck(t, l, api.ErrThere)
		}
	}
	l := line(2)
	l.Joints = append(l.Joints, joined(1, 1, 1, 0))
	expectCheck(t, l, api.OK)
	l.Joints = append(l.Joints, joined(0, 0, 0, 1))
	expectCheck(t, l, api.OK)
	expectCheck(t, api.Topo{Edges: l.Edges, Joints: append(l.Joints, joined(1, 1, 1, 0))}, api.ErrThere)
	expectCheck(t, api.Topo{Edges: l.Edges, Joints: append(l.Joints, joined(1, 0, 1, 1))}, api.ErrThere)
}

func TestCheckOfTheIDOfABal(t *testing.T) {
	for _, n := range []int{1, 3, 40} {
		for i := range n {
			l := line(n)
			for _, l.Bals[i].ID = range []int{1, 2, 7, 255, 65535, 65536, 16777213, 16777214} {
				expectCheck(t, l, api.OK)
			}
			for _, l.Bals[i].ID = range append((limits{0, 16777214}).outside(), 16777215, 16777216, 33554431) {
				expectCheck(t, l, api.ErrArg)
			}
		}
	}
	l := api.Topo{Edges: []int{5}, Bals: []api.Bal{{ID: 16777214}, {ID: 0}, {ID: 1}}}
	expectCheck(t, l, api.OK)
}

func TestCheckOfTheEdgeOfABal(t *testing.T) {
	for _, n := range []int{0, 1, 3, 40} {
		for i := range 3 {
			l := line(n)
			l.Bals = []api.Bal{{ID: 1}, {ID: 2}, {ID: 3}}
			for l.Bals[i].Edge = range n {
				expectCheck(t, l, api.OK)
			}
			for _, l.Bals[i].Edge = range []int{math.MinInt, -1 << 32, -n - 1, -1, n, n + 1, 1 << 32, 1<<32 + 1, math.MaxInt} {
				expectCheck(t, l, api.ErrArg)
			}
		}
	}
}

// A balise group may lie at both ends of its edge, whatever the lengths of the
// others.
func TestCheckOfTheAtOfABal(t *testing.T) {
	for _, edges := range [][]int{{1}, {1000000}, {1, 1000000}, {1000000, 1}, {300, 200, 100}, {100, 200, 300}} {
		for n, length := range edges {
			l := api.Topo{Edges: edges, Bals: []api.Bal{{ID: 1}, {ID: 2, Edge: n}}}
			for _, l.Bals[1].At = range (limits{0, length}).inside() {
				expectCheck(t, l, api.OK)
			}
			for _, l.Bals[1].At = range (limits{0, length}).outside() {
				expectCheck(t, l, api.ErrArg)
			}
		}
	}
}

// Two balise groups may lie at one place, but may not have one ID.
func TestCheckOfBalsWithOneID(t *testing.T) {
	for later := range 20 {
		for earlier := range later {
			l := line(20)
			l.Bals[later].ID = l.Bals[earlier].ID
			expectCheck(t, l, api.ErrThere)
			l.Bals[later] = l.Bals[earlier]
			expectCheck(t, l, api.ErrThere)
			l.Bals[later].ID = 5
			expectCheck(t, l, api.OK)
		}
	}
}

func TestCheckOfTheIDOfARoute(t *testing.T) {
	l := routed(3, over(0, 1, 2)...)
	l.Routes = append(l.Routes, api.Route{ID: 7, Path: over(1), Timer: 1})
	for i := range l.Routes {
		kept := l.Routes[i].ID
		for _, l.Routes[i].ID = range []int{1, 2, 255, 256, 1 << 31, 1 << 32, 1<<40 + 3, 1 << 62, math.MaxInt} {
			expectCheck(t, l, api.OK)
		}
		for _, l.Routes[i].ID = range []int{0, -1, -2, -5, -1<<32 + 1, -1 << 32, -1 << 62, math.MinInt + 5, math.MinInt} {
			expectCheck(t, l, api.ErrArg)
		}
		l.Routes[i].ID = kept
	}
}

func TestCheckOfTheStepsOfARoute(t *testing.T) {
	for _, l := range []api.Topo{line(40), ring(40), fullest()} {
		var path []api.Step
		for n := range 40 {
			path = append(path, on(n))
			for _, p := range [][]api.Step{path, wantBack(path)} {
				m := l
				m.Routes = []api.Route{{ID: 5, Path: p, Timer: 60}}
				if n < 8 {
					expectCheck(t, m, api.OK)
				} else {
					expectCheck(t, m, api.ErrArg)
				}
			}
		}
	}
	expectCheck(t, routed(3), api.ErrArg)
	expectCheck(t, routed(3, []api.Step{}...), api.ErrArg)
	expectCheck(t, api.Topo{Routes: []api.Route{{ID: 1, Timer: 1}}}, api.ErrArg)
	l := routed(3)
	l.Routes[0].Gap = 0
	expectCheck(t, l, api.ErrArg)
}

func TestCheckOfARouteOverAnEdgeThatIsNone(t *testing.T) {
	for size := 1; size <= 8; size++ {
		for i := range size {
			for _, bad := range []int{math.MinInt, -1 << 32, -1, 10, 11, 255, 1 << 32, 1<<32 + i, math.MaxInt} {
				for _, rev := range []bool{false, true} {
					path := over(0, 1, 2, 3, 4, 5, 6, 7)[:size]
					path[i] = api.Step{Edge: bad, Rev: rev}
					expectCheck(t, routed(10, path...), api.ErrArg)
				}
			}
		}
	}
}

// A joint with an end that may not be would connect such an edge, but Check finds
// that first.
func TestCheckOfARouteOverAJointThatMayNotBe(t *testing.T) {
	l := routed(2, over(0, 1, 2)...)
	l.Joints = append(l.Joints, joined(1, 1, 2, 0))
	expectCheck(t, l, api.ErrArg)
}

// No route is over an edge twice, in whatever directions, also where each step
// may follow the previous one.
func TestCheckOfARouteOverAnEdgeTwice(t *testing.T) {
	for size := 1; size <= 7; size++ {
		l := ring(size)
		l.Bals[0].At = 0
		path := append(over(0, 1, 2, 3, 4, 5, 6)[:size], on(0))
		l.Routes = []api.Route{{ID: 5, Path: path, Timer: 60}}
		if wayEnds(l, path) {
			t.Fatalf("%+v is no way", path)
		}
		expectCheck(t, l, api.ErrArg)
	}
	for first := range 8 {
		for second := range first {
			path := over(0, 1, 2, 3, 4, 5, 6, 7)
			path[first] = path[second]
			expectCheck(t, routed(8, path...), api.ErrArg)
			path[first].Rev = true
			expectCheck(t, routed(8, path...), api.ErrArg)
		}
	}
	l := routed(3, on(0), on(1), back(0))
	l.Joints = append(l.Joints, joined(1, 1, 0, 1))
	if wayEnds(l, l.Routes[0].Path) {
		t.Fatalf("%+v is no way", l.Routes[0].Path)
	}
	expectCheck(t, l, api.ErrArg)
	l = routed(3, over(0, 0)...)
	l.Joints = append(l.Joints, joined(0, 1, 0, 0))
	expectCheck(t, l, api.ErrArg)
}

func TestCheckOfARouteThatEnds(t *testing.T) {
	for _, path := range [][]api.Step{
		over(0, 2), over(1, 0), over(2, 1), {on(0), back(1)}, {back(0), on(1)}, {back(0), back(1)}, {back(1), on(0)}, {on(1), back(0)},
		over(0, 2, 1), over(1, 2, 0), over(0, 1, 3), over(0, 2, 3), {on(0), on(1), back(2)}, {on(0), back(1), on(2)}, {back(0), on(1), on(2)},
		{back(2), on(1), back(0)}, {back(2), back(1), on(0)}, {on(2), back(1), back(0)}, over(1, 2, 3, 4, 5, 6, 7, 0), over(7, 6, 5, 4, 3, 2, 1, 0),
	} {
		expectCheck(t, routed(8, path...), api.ErrEnd)
	}
	for size := 2; size <= 8; size++ {
		for gone := range size - 1 {
			l := routed(8, over(0, 1, 2, 3, 4, 5, 6, 7)[:size]...)
			expectCheck(t, l, api.OK)
			l.Joints = slices.Delete(l.Joints, gone, gone+1)
			expectCheck(t, l, api.ErrEnd)
		}
	}
}

// A joint connects its ends in both orders and both directions.
func TestCheckOfARouteOverTurnedJoints(t *testing.T) {
	for set := range 128 {
		l := routed(8, over(0, 1, 2, 3, 4, 5, 6, 7)...)
		for i, j := range l.Joints {
			if set>>i&1 == 1 {
				l.Joints[i] = turned(j)
			}
		}
		expectCheck(t, l, api.OK)
		l.Routes[0].Path = wantBack(l.Routes[0].Path)
		expectCheck(t, l, api.OK)
	}
}

func TestCheckOfGap(t *testing.T) {
	for _, c := range []struct {
		path   []api.Step
		length int
	}{
		{over(0), 100}, {[]api.Step{back(3)}, 400}, {over(0, 1), 300}, {over(1, 2, 3), 900}, {[]api.Step{back(3), back(2), back(1)}, 900},
		{over(0, 1, 2, 3, 4, 5, 6, 7), 3600},
	} {
		l := routed(8, c.path...)
		for _, l.Routes[0].Gap = range (limits{0, c.length - 1}).inside() {
			expectCheck(t, l, api.OK)
		}
		for _, l.Routes[0].Gap = range (limits{0, c.length - 1}).outside() {
			expectCheck(t, l, api.ErrArg)
		}
	}
}

// The shortest route has no Gap, the longest one nearly as long a Gap.
func TestCheckOfGapOfTheEndsOfLength(t *testing.T) {
	l := routed(8, on(0))
	l.Bals = nil
	for i := range 8 {
		l.Edges[i] = 1
		l.Bals = append(l.Bals, api.Bal{ID: i, Edge: i})
	}
	for gap, want := range map[int]api.Errno{-1: api.ErrArg, 0: api.OK, 1: api.ErrArg} {
		l.Routes[0].Gap = gap
		expectCheck(t, l, want)
	}
	for i := range 8 {
		l.Edges[i] = 1000000
	}
	l.Routes[0].Path = over(0, 1, 2, 3, 4, 5, 6, 7)
	for gap, want := range map[int]api.Errno{-1: api.ErrArg, 0: api.OK, 1000000: api.OK, 7999999: api.OK, 8000000: api.ErrArg} {
		l.Routes[0].Gap = gap
		expectCheck(t, l, want)
	}
}

func TestCheckOfTimer(t *testing.T) {
	for _, path := range [][]api.Step{over(0), over(1, 2), over(0, 1, 2, 3)} {
		l := routed(4, path...)
		for _, l.Routes[0].Timer = range (limits{1, 1000}).inside() {
			expectCheck(t, l, api.OK)
		}
		for _, l.Routes[0].Timer = range append((limits{1, 1000}).outside(), 0, 1024) {
			expectCheck(t, l, api.ErrArg)
		}
	}
}

// Each edge of a route has a balise group, wherever it lies; the other edges
// need none.
func TestCheckOfARouteOverAnEdgeWithoutABal(t *testing.T) {
	for size := 1; size <= 8; size++ {
		for gone := range 10 {
			for _, at := range []int{0, 1, 50} {
				l := routed(10, over(0, 1, 2, 3, 4, 5, 6, 7)[:size]...)
				for i := range l.Bals {
					l.Bals[i].At = at
				}
				l.Bals = slices.Delete(l.Bals, gone, gone+1)
				want := api.OK
				if gone < size {
					want = api.ErrNone
				}
				expectCheck(t, l, want)
				l.Routes[0].Path = wantBack(l.Routes[0].Path)
				expectCheck(t, l, want)
				l.Bals = append(l.Bals, api.Bal{ID: 999, Edge: gone, At: at})
				expectCheck(t, l, api.OK)
			}
		}
	}
}

// Two routes may have one path, but may not have one ID.
func TestCheckOfRoutesWithOneID(t *testing.T) {
	for later := range 30 {
		for earlier := range later {
			l := fullest()
			l.Routes[later].ID = l.Routes[earlier].ID
			expectCheck(t, l, api.ErrThere)
			l.Routes[later] = l.Routes[earlier]
			expectCheck(t, l, api.ErrThere)
			l.Routes[later].ID = 999
			expectCheck(t, l, api.OK)
		}
	}
}

// fault is something that is wrong with a layout, and its error.
type fault struct {
	err    api.Errno
	commit func(l *api.Topo)
}

// expectFaults checks that of every set of faults, the first one tells the
// error. The list is in the order of the chapter.
func expectFaults(t *testing.T, fine api.Topo, faults []fault) {
	t.Helper()
	expectCheck(t, fine, api.OK)
	for set := 1; set < 1<<len(faults); set++ {
		l, want := copyTopo(fine), api.OK
		for i, f := range faults {
			if set>>i&1 == 1 {
				f.commit(&l)
			}
			if set>>i&1 == 1 && want == api.OK {
				want = f.err
			}
		}
		if have := Check(l); have != want || wantCheck(l) != want {
			t.Fatalf("Check(%+v): %d, want %d, and by the chapter %d", l, have, want, wantCheck(l))
		}
	}
}

// Within a joint and a balise group.
func TestCheckErrorsInOrderWithinOne(t *testing.T) {
	l := line(3)
	l.Joints = append(l.Joints, joined(2, 1, 0, 0))
	l.Bals = append(l.Bals, api.Bal{ID: 5})
	expectFaults(t, l, []fault{
		{api.ErrArg, func(l *api.Topo) { l.Joints[2].A.At = 2 }},
		{api.ErrArg, func(l *api.Topo) { l.Joints[2].B.Edge = 3 }},
		{api.ErrArg, func(l *api.Topo) { l.Bals[3].At = 101 }},
		{api.ErrThere, func(l *api.Topo) { l.Bals[3].ID = 10 }},
	})
	expectFaults(t, l, []fault{
		{api.ErrThere, func(l *api.Topo) { l.Joints[2] = joined(1, 0, 0, 1) }},
		{api.ErrArg, func(l *api.Topo) { l.Bals[3].Edge = 3 }},
		{api.ErrArg, func(l *api.Topo) { l.Bals[3].At = -1 }},
		{api.ErrThere, func(l *api.Topo) { l.Bals[3].ID = 0 }},
	})
	expectFaults(t, l, []fault{{api.ErrArg, func(l *api.Topo) { l.Bals[3].ID = -1 }}, {api.ErrArg, func(l *api.Topo) { l.Bals[3].Edge = -1 }}})
}

// Within a route: its path, then its way, then its numbers, then balise groups,
// then its ID.
func TestCheckErrorsInOrderWithinARoute(t *testing.T) {
	l := routed(10, over(8)...)
	l.Routes = append(l.Routes, api.Route{ID: 6, Path: over(1, 2, 3, 4), Gap: 99, Timer: 7})
	path := func(f func(path *[]api.Step)) func(l *api.Topo) { return func(l *api.Topo) { f(&l.Routes[1].Path) } }
	late := []fault{
		{api.ErrEnd, path(func(p *[]api.Step) { (*p)[0], (*p)[1] = (*p)[1], (*p)[0] })},
		{api.ErrArg, func(l *api.Topo) { l.Routes[1].Gap = 100000 }},
		{api.ErrArg, func(l *api.Topo) { l.Routes[1].Timer = 0 }},
		{api.ErrNone, func(l *api.Topo) { l.Bals = slices.Delete(l.Bals, 3, 4) }},
	}
	same := fault{api.ErrThere, func(l *api.Topo) { l.Routes[1].ID = 5 }}
	early := []fault{
		{api.ErrArg, func(l *api.Topo) { l.Routes[1].ID = 0 }},
		{api.ErrArg, path(func(p *[]api.Step) { *p = append(*p, on(10)) })},
		{api.ErrArg, path(func(p *[]api.Step) { *p = append(*p, back(2)) })},
		{api.ErrArg, path(func(p *[]api.Step) { *p = append(*p, over(5, 6, 7, 8, 9)...) })},
		{api.ErrArg, path(func(p *[]api.Step) { *p = nil })},
	}
	expectFaults(t, l, append(slices.Clone(early[:4]), late...))
	expectFaults(t, l, slices.Concat(early[1:4], late, []fault{same}))
	expectFaults(t, l, slices.Concat(early[4:], late[1:], []fault{same}))
	expectFaults(t, l, slices.Concat(early[:1], early[4:], late[1:]))
}

// Across all that a layout has: in the order of the promise, and within one list
// in that of the list.
func TestCheckErrorsInOrderAcrossAll(t *testing.T) {
	l := line(8)
	for i := range 4 {
		l.Joints = append(l.Joints, joined(i, 1, i+4, 0))
		l.Bals = append(l.Bals, api.Bal{ID: i + 1})
	}
	for i := range 7 {
		l.Routes = append(l.Routes, api.Route{ID: i + 1, Path: over(i, i+1), Timer: 1})
	}
	expectFaults(t, l, []fault{
		{api.ErrLong, func(l *api.Topo) { l.Edges = append(l.Edges, make([]int, 33)...) }},
		{api.ErrArg, func(l *api.Topo) { l.Edges[7] = 0 }},
		{api.ErrThere, func(l *api.Topo) { l.Joints[7] = l.Joints[2] }},
		{api.ErrArg, func(l *api.Topo) { l.Joints[8] = joined(1, 1, 1, 1) }},
		{api.ErrThere, func(l *api.Topo) { l.Joints[9] = turned(l.Joints[3]) }},
		{api.ErrArg, func(l *api.Topo) { l.Joints[10] = joined(1, 1, 8, 1) }},
		{api.ErrThere, func(l *api.Topo) { l.Bals[8].ID = 10 }},
		{api.ErrArg, func(l *api.Topo) { l.Bals[9].ID = -1 }},
		{api.ErrThere, func(l *api.Topo) { l.Bals[10].ID = 20 }},
		{api.ErrArg, func(l *api.Topo) { l.Bals[11].At = 101 }},
		{api.ErrThere, func(l *api.Topo) { l.Routes[2].ID = 1 }},
		{api.ErrArg, func(l *api.Topo) { l.Routes[3].Timer = 1001 }},
		{api.ErrEnd, func(l *api.Topo) { l.Routes[4].Path = over(0, 2) }},
		{api.ErrArg, func(l *api.Topo) { l.Routes[5].Path = over(0, 8) }},
	})
	l.Bals = slices.Delete(l.Bals, 6, 7)
	l.Routes = l.Routes[:5]
	expectFaults(t, l, []fault{
		{api.ErrThere, func(l *api.Topo) { l.Bals[8].ID = 10 }},
		{api.ErrNone, func(l *api.Topo) { l.Routes[0].Path = over(5, 6) }},
		{api.ErrThere, func(l *api.Topo) { l.Routes[2].ID = 2 }},
		{api.ErrEnd, func(l *api.Topo) { l.Routes[3].Path = over(1, 3) }},
		{api.ErrNone, func(l *api.Topo) { l.Routes[4].Path = over(6) }},
	})
}

// P13.2

func TestAfter(t *testing.T) {
	l := example()
	expectAfter(t, l, back(0))
	expectAfter(t, l, on(1))
	expectAfter(t, l, on(2), back(0))
	expectAfter(t, l, back(2))
	for i := range 40 {
		ahead, behind := (i+1)%40, (i+39)%40
		expectAfter(t, ring(40), on(i), on(ahead))
		expectAfter(t, ring(40), back(i), back(behind))
		l := fullest()
		expectAfter(t, l, on(i), wantAfter(l, on(i))...)
		expectAfter(t, l, back(i), wantAfter(l, back(i))...)
	}
}

// steps returns all steps over n edges.
func steps(n int) []api.Step {
	var list []api.Step
	for i := range n {
		list = append(list, on(i), back(i))
	}
	return list
}

// Every joint of two ends, for every step.
func TestAfterOfOneJoint(t *testing.T) {
	for _, a := range allEnds(4) {
		for _, b := range allEnds(4) {
			l := api.Topo{Edges: []int{100, 200, 300, 400}, Joints: []api.Joint{{A: a, B: b}}}
			for _, s := range steps(4) {
				expectAfter(t, l, s, wantAfter(l, s)...)
			}
		}
	}
}

func TestAfterOfEdgesThatAreNone(t *testing.T) {
	for _, n := range []int{0, 1, 3, 40} {
		l := line(n)
		for _, bad := range []int{math.MinInt, -1 << 32, -2, -1, n, n + 1, 1 << 32, 1<<32 + 1, math.MaxInt} {
			expectAfter(t, l, on(bad))
			expectAfter(t, l, back(bad))
		}
	}
	expectAfter(t, api.Topo{}, on(0))
	expectAfter(t, api.Topo{Joints: []api.Joint{joined(0, 1, 0, 0)}}, on(0))
}

// A joint that names one invalid end leaves both of its ends as they are, and no
// step follows one over an edge that does not exist.
func TestAfterOfJointsWithInvalidEnds(t *testing.T) {
	var bad []api.End
	for _, n := range []int{math.MinInt, -1, 3, 4, 1 << 32, 1<<32 + 1, math.MaxInt} {
		bad = append(bad, api.End{Edge: n}, api.End{Edge: n, At: 1})
	}
	for _, at := range []int{math.MinInt, -1 << 32, -1, 2, 3, 256, 257, 1 << 32, 1<<32 + 1, math.MaxInt} {
		for n := range 3 {
			bad = append(bad, api.End{Edge: n, At: at})
		}
	}
	for _, e := range bad {
		for _, f := range append(allEnds(3), e, bad[0], bad[len(bad)-1]) {
			for _, j := range []api.Joint{{A: e, B: f}, {A: f, B: e}} {
				bare := api.Topo{Edges: []int{100, 200, 300}, Joints: []api.Joint{j}}
				first, last := line(3), line(3)
				first.Joints = append([]api.Joint{j}, first.Joints...)
				last.Joints = append(last.Joints, j)
				for _, s := range append(steps(3), on(e.Edge), back(e.Edge)) {
					expectAfter(t, bare, s)
					expectAfter(t, first, s, wantAfter(line(3), s)...)
					expectAfter(t, last, s, wantAfter(line(3), s)...)
				}
			}
		}
	}
}

// Joints that are given twice, or the other way round, give each step once.
func TestAfterOfJointsGivenTwice(t *testing.T) {
	l := example()
	l.Joints = slices.Repeat(l.Joints, 5)
	for i, j := range l.Joints {
		if i%3 == 0 {
			l.Joints[i] = turned(j)
		}
	}
	expectAfter(t, l, on(0), on(1), back(2))
	expectAfter(t, l, back(1), back(0))
	expectAfter(t, l, on(2), back(0))
}

// An end that is connected with itself leads back; the two ends of one edge lead
// round.
func TestAfterOfOneEdge(t *testing.T) {
	l := api.Topo{Edges: []int{100}}
	expectAfter(t, l, on(0))
	l.Joints = []api.Joint{joined(0, 1, 0, 1)}
	expectAfter(t, l, on(0), back(0))
	expectAfter(t, l, back(0))
	l.Joints = []api.Joint{joined(0, 0, 0, 0)}
	expectAfter(t, l, on(0))
	expectAfter(t, l, back(0), on(0))
	for _, l.Joints = range [][]api.Joint{{joined(0, 0, 0, 1)}, {joined(0, 1, 0, 0)}} {
		expectAfter(t, l, on(0), on(0))
		expectAfter(t, l, back(0), back(0))
	}
	l.Joints = []api.Joint{joined(0, 0, 0, 0), joined(0, 1, 0, 1), joined(0, 1, 0, 0)}
	expectAfter(t, l, on(0), on(0), back(0))
	expectAfter(t, l, back(0), on(0), back(0))
}

// draw returns a function whose results from 0 to below n look random.
func draw(seed uint64) func(n int) int {
	return func(n int) int {
		seed = seed*6364136223846793005 + 1442695040888963407
		return int(seed>>33) % n
	}
}

// shuffle reorders list.
func shuffle[T any](roll func(n int) int, list []T) {
	for i := range list {
		k := roll(i + 1)
		list[i], list[k] = list[k], list[i]
	}
}

// In whatever order the joints are given, the steps are in that of their edges.
func TestAfterInOrder(t *testing.T) {
	for seed := range 300 {
		roll := draw(uint64(seed))
		n := 1 + roll(60)
		l := api.Topo{Edges: slices.Repeat([]int{50}, n)}
		from := api.End{Edge: roll(n), At: roll(2)}
		for _, e := range allEnds(n) {
			j := api.Joint{A: from, B: e}
			if roll(2) == 0 {
				j = turned(j)
			}
			l.Joints = append(l.Joints, j)
		}
		shuffle(roll, l.Joints)
		expectAfter(t, l, api.Step{Edge: from.Edge, Rev: from.At == 0}, steps(n)...)
		l.Joints = l.Joints[:roll(len(l.Joints)+1)]
		for _, s := range steps(n) {
			expectAfter(t, l, s, wantAfter(l, s)...)
		}
	}
}

// After looks at edges and joints alone, and at as many as there are.
func TestAfterOfLayoutsThatAreNotValid(t *testing.T) {
	l := ring(100)
	for i := range l.Edges {
		l.Edges[i] = []int{0, -1, math.MinInt, math.MaxInt}[i%4]
	}
	l.Bals = append(l.Bals, l.Bals...)
	l.Routes = make([]api.Route, 50)
	for i := range 100 {
		expectAfter(t, l, on(i), on((i+1)%100))
		expectAfter(t, l, back(i), back((i+99)%100))
	}
}

func TestBack(t *testing.T) {
	expectBack(t, nil)
	expectBack(t, []api.Step{})
	expectBack(t, over(0), back(0))
	expectBack(t, []api.Step{back(0)}, on(0))
	expectBack(t, over(0, 1), back(1), back(0))
	expectBack(t, []api.Step{on(0), back(2)}, on(2), back(0))
	expectBack(t, []api.Step{back(3), on(5), back(4)}, on(4), back(5), on(3))
	expectBack(t, over(7, 7, 7), back(7), back(7), back(7))
	expectBack(t, over(3, 1, 2, 0), back(0), back(2), back(1), back(3))
}

// Back knows no layout, so the steps may be over any edges, and as many as one
// likes.
func TestBackOfAnySteps(t *testing.T) {
	for _, n := range []int{math.MinInt, -1 << 32, -1, 40, 1 << 32, math.MaxInt} {
		expectBack(t, []api.Step{on(n), back(-n), back(n)}, on(n), on(-n), back(n))
	}
	for seed := range 200 {
		roll := draw(uint64(seed))
		var path []api.Step
		for range roll(100) {
			path = append(path, api.Step{Edge: roll(50) - 5, Rev: roll(2) == 0})
		}
		expectBack(t, path, wantBack(path)...)
	}
}

// P13.3

func TestLength(t *testing.T) {
	l := example()
	expectLength(t, l, over(0), 100, api.OK)
	expectLength(t, l, over(1), 200, api.OK)
	expectLength(t, l, []api.Step{back(2)}, 300, api.OK)
	expectLength(t, l, []api.Step{on(0), back(2)}, 400, api.OK)
	expectLength(t, l, []api.Step{on(2), back(0)}, 400, api.OK)
	expectLength(t, l, []api.Step{back(1), back(0)}, 300, api.OK)
	l.Edges = []int{1, 1000000, 1}
	expectLength(t, l, over(0), 1, api.OK)
	expectLength(t, l, over(1), 1000000, api.OK)
	expectLength(t, l, over(0, 1), 1000001, api.OK)
}

func TestLengthOfNumbersOfSteps(t *testing.T) {
	l := ring(60)
	expectLength(t, l, nil, 0, api.ErrArg)
	expectLength(t, l, []api.Step{}, 0, api.ErrArg)
	expectLength(t, api.Topo{}, nil, 0, api.ErrArg)
	var path []api.Step
	for n := range 300 {
		path = append(path, on(n%60))
		want, wantErr := 50*(n+1)*(n+2), api.OK
		if n >= 40 {
			want, wantErr = 0, api.ErrArg
		}
		expectLength(t, l, path, want, wantErr)
		expectLength(t, l, wantBack(path), want, wantErr)
	}
}

// An edge counts as often as it occurs, in whatever direction.
func TestLengthOverAnEdgeSeveralTimes(t *testing.T) {
	l := api.Topo{Edges: []int{1000000, 7}, Joints: []api.Joint{joined(0, 1, 0, 0), joined(0, 1, 1, 1), joined(1, 0, 1, 0)}}
	for n := 1; n <= 40; n++ {
		expectLength(t, l, slices.Repeat(over(0), n), 1000000*n, api.OK)
		expectLength(t, l, slices.Repeat([]api.Step{back(0)}, n), 1000000*n, api.OK)
	}
	expectLength(t, l, slices.Repeat(over(0), 41), 0, api.ErrArg)
	expectLength(t, l, []api.Step{on(0), back(1), on(1), back(0)}, 2000014, api.OK)
	expectLength(t, l, []api.Step{on(0), back(1), on(1), back(0), back(0)}, 3000014, api.OK)
	expectLength(t, ring(3), over(0, 1, 2, 0, 1, 2, 0), 1300, api.OK)
	expectLength(t, ring(3), over(2, 0, 1, 2), 900, api.OK)
}

func TestLengthOverEdgesThatAreNone(t *testing.T) {
	for _, size := range []int{1, 2, 5, 40} {
		for i := range size {
			for _, bad := range []int{math.MinInt, -1 << 32, -1, 40, 41, 1 << 32, 1<<32 + i, math.MaxInt} {
				for _, rev := range []bool{false, true} {
					path := steps(40)[:2*size]
					path = slices.DeleteFunc(path, func(s api.Step) bool { return s.Rev })
					path[i] = api.Step{Edge: bad, Rev: rev}
					expectLength(t, line(40), path, 0, api.ErrArg)
				}
			}
		}
	}
	l := line(3)
	l.Joints = append(l.Joints, joined(2, 1, 3, 0), joined(3, 1, -1, 0))
	expectLength(t, l, over(3), 0, api.ErrArg)
	expectLength(t, l, over(2, 3), 0, api.ErrArg)
	expectLength(t, l, over(3, -1), 0, api.ErrArg)
	expectLength(t, api.Topo{}, over(0), 0, api.ErrArg)
}

func TestLengthOfWhatIsNoWay(t *testing.T) {
	for a := range 5 {
		for b := range 5 {
			for rev := range 4 {
				path := []api.Step{{Edge: a, Rev: rev&1 == 1}, {Edge: b, Rev: rev&2 == 2}}
				want, wantErr := 0, api.ErrEnd
				if rev == 0 && b == a+1 || rev == 3 && a == b+1 {
					want, wantErr = 100*(a+b)+200, api.OK
				}
				expectLength(t, line(5), path, want, wantErr)
			}
		}
	}
	for size := 2; size <= 40; size++ {
		for gone := range size - 1 {
			l := line(40)
			l.Joints = slices.Delete(l.Joints, gone, gone+1)
			path := slices.DeleteFunc(steps(size), func(s api.Step) bool { return s.Rev })
			expectLength(t, line(40), path, 50*size*(size+1), api.OK)
			expectLength(t, l, path, 0, api.ErrEnd)
			expectLength(t, l, wantBack(path), 0, api.ErrEnd)
		}
	}
}

// What is wrong with the steps is found before that they are no way.
func TestLengthErrorsInOrder(t *testing.T) {
	l := line(5)
	expectLength(t, l, over(0, 2), 0, api.ErrEnd)
	expectLength(t, l, over(0, 2, 5), 0, api.ErrArg)
	expectLength(t, l, over(5, 0, 2), 0, api.ErrArg)
	expectLength(t, l, over(0, -1, 2), 0, api.ErrArg)
	expectLength(t, l, slices.Repeat(over(0), 40), 0, api.ErrEnd)
	expectLength(t, l, slices.Repeat(over(0), 41), 0, api.ErrArg)
	expectLength(t, l, slices.Repeat(over(9), 41), 0, api.ErrArg)
	expectLength(t, api.Topo{}, slices.Repeat(over(0), 40), 0, api.ErrArg)
}

// Length looks at edges and joints alone, and at as many as there are; the sum
// is not specified where lengths are not valid, the errors are.
func TestLengthOfLayoutsThatAreNotValid(t *testing.T) {
	l := ring(100)
	l.Joints = append(l.Joints, joined(-1, 0, 0, 0), joined(0, 1, 100, 0), joined(0, 1, 2, 2))
	l.Bals = nil
	l.Routes = make([]api.Route, 50)
	expectLength(t, l, over(98, 99, 0, 1), 20200, api.OK)
	expectLength(t, l, over(0, 2), 0, api.ErrEnd)
	expectLength(t, l, over(0, 100), 0, api.ErrArg)
	for i := range l.Edges {
		l.Edges[i] = []int{0, -1, math.MinInt, math.MaxInt}[i%4]
	}
	if _, err := Length(l, over(0, 1, 2, 3, 4)); err != api.OK {
		t.Errorf("%d", err)
	}
	expectLength(t, l, over(0, 2), 0, api.ErrEnd)
	expectLength(t, l, over(0, 100), 0, api.ErrArg)
}

func TestBal(t *testing.T) {
	l := fullest()
	for i, b := range l.Bals {
		expectBal(t, l, b.ID, i)
	}
	for _, id := range []int{math.MinInt, -1 << 32, -10, -1, 1, 9, 11, 391, 400, 999, 1040, 16777214, 1 << 32, 1<<32 + 10, math.MaxInt} {
		expectBal(t, l, id, -1)
	}
	expectBal(t, api.Topo{}, 0, -1)
	expectBal(t, api.Topo{Edges: []int{100}, Bals: []api.Bal{{ID: 5}}}, 0, -1)
}

// Bal returns the first balise group with an ID as it stands, whatever it is.
func TestBalOfTwoWithOneID(t *testing.T) {
	l := example()
	l.Bals = []api.Bal{{ID: 8, Edge: 2}, {ID: 7, At: 50}, {ID: 8, Edge: 1, At: 5}, {ID: -1, Edge: 9, At: -9}, {ID: 7}, {ID: 8, Edge: 2}}
	expectBal(t, l, 8, 0)
	expectBal(t, l, 7, 1)
	expectBal(t, l, -1, 3)
	expectBal(t, l, 0, -1)
	l.Bals = l.Bals[1:]
	expectBal(t, l, 8, 1)
	expectBal(t, l, 7, 0)
}

func TestRoute(t *testing.T) {
	l := fullest()
	for i, r := range l.Routes {
		expectRoute(t, l, r.ID, i)
	}
	for _, id := range []int{math.MinInt, -1 << 32, -1, 0, 31, 100, 1 << 32, 1<<32 + 1, math.MaxInt} {
		expectRoute(t, l, id, -1)
	}
	expectRoute(t, api.Topo{}, 0, -1)
	expectRoute(t, api.Topo{}, 1, -1)
	expectRoute(t, example(), 1, 0)
	expectRoute(t, example(), 0, -1)
}

// Route returns the first route with an ID as it stands, whatever it is.
func TestRouteOfTwoWithOneID(t *testing.T) {
	l := example()
	l.Routes = []api.Route{
		{ID: 4, Path: over(0, 1), Gap: 10, Timer: 60}, {ID: 3, Path: over(2), Gap: 5, Timer: 6}, {ID: 4, Path: over(1), Gap: 1, Timer: 2},
		{ID: -1, Path: over(9, -9), Gap: -5, Timer: -6}, {ID: 3}, {ID: 0, Path: []api.Step{}}, {ID: 4, Path: over(0, 1), Gap: 10, Timer: 60},
	}
	expectRoute(t, l, 4, 0)
	expectRoute(t, l, 3, 1)
	expectRoute(t, l, -1, 3)
	expectRoute(t, l, 0, 5)
	expectRoute(t, l, 1, -1)
	l.Routes = l.Routes[1:]
	expectRoute(t, l, 4, 1)
	expectRoute(t, l, 3, 0)
}

// P13.1 to P13.3 over layouts that are drawn.

// pick returns one of list.
func pick(roll func(n int) int, list ...int) int { return list[roll(len(list))] }

// drawnPath returns a way without an edge twice, of at most size steps.
func drawnPath(roll func(n int) int, l api.Topo, size int) []api.Step {
	path := []api.Step{{Edge: roll(len(l.Edges)), Rev: roll(2) == 0}}
	for len(path) < size {
		list := slices.DeleteFunc(wantAfter(l, path[len(path)-1]), func(s api.Step) bool {
			return slices.Contains(path, s) || slices.Contains(path, wantBack([]api.Step{s})[0])
		})
		if len(list) == 0 {
			break
		}
		path = append(path, list[roll(len(list))])
	}
	return path
}

// drawn returns a valid layout.
func drawn(roll func(n int) int) api.Topo {
	var l api.Topo
	n := 1 + roll(9)
	for i := range n {
		l.Edges = append(l.Edges, pick(roll, 1, 2, 100, 100, 250, 999999, 1000000))
		for range 1 + roll(2) {
			l.Bals = append(l.Bals, api.Bal{ID: len(l.Bals), Edge: i, At: roll(l.Edges[i] + 1)})
		}
	}
	for range roll(3 * n) {
		ends := allEnds(n)
		j := api.Joint{A: ends[roll(len(ends))], B: ends[roll(len(ends))]}
		if j.A != j.B && !slices.Contains(l.Joints, j) && !slices.Contains(l.Joints, turned(j)) {
			l.Joints = append(l.Joints, j)
		}
	}
	for i := range roll(6) {
		path := drawnPath(roll, l, 1+roll(8))
		length, _ := wantLength(l, path)
		l.Routes = append(l.Routes, api.Route{ID: i + 1, Path: path, Gap: pick(roll, 0, length/2, length-1), Timer: pick(roll, 1, 60, 1000)})
	}
	return l
}

// spoil changes one thing about l, as a rule to what it may not be.
func spoil(roll func(n int) int, l *api.Topo) {
	list := []*int{&l.Edges[roll(len(l.Edges))]}
	if n := len(l.Bals); n > 0 {
		b := &l.Bals[roll(n)]
		list = append(list, &b.ID, &b.Edge, &b.At)
	}
	if n := len(l.Joints); n > 0 {
		j := &l.Joints[roll(n)]
		list = append(list, &j.A.Edge, &j.A.At, &j.B.Edge, &j.B.At)
		if k := roll(n); roll(4) == 0 {
			*j = turned(l.Joints[k])
		}
	}
	if n := len(l.Routes); n > 0 {
		r := &l.Routes[roll(n)]
		s := &r.Path[roll(len(r.Path))]
		list = append(list, &r.ID, &r.Gap, &r.Timer, &s.Edge, &s.Edge, &s.Edge)
		s.Rev = s.Rev != (roll(6) == 0)
		if n := len(l.Bals); n > 0 && roll(6) == 0 {
			l.Bals = l.Bals[:n-1]
		}
	}
	*list[roll(len(list))] = pick(roll, math.MinInt, -1, 0, 1, 2, 3, len(l.Edges), 1001, 1000001, 1<<32+1, math.MaxInt)
}

// drawnSteps returns steps that are a way now and then.
func drawnSteps(roll func(n int) int, l api.Topo) []api.Step {
	path := drawnPath(roll, l, roll(12))
	if roll(3) > 0 {
		path = path[:1]
		for range pick(roll, 0, 1, 2, 5, 38, 39, 40) {
			if list := wantAfter(l, path[len(path)-1]); len(list) > 0 {
				path = append(path, list[roll(len(list))])
			}
		}
	}
	if roll(3) == 0 {
		path[roll(len(path))] = api.Step{Edge: roll(len(l.Edges)+2) - 1, Rev: roll(2) == 0}
	}
	return path
}

func TestCallsOfDrawnLayouts(t *testing.T) {
	checks, ways := map[api.Errno]int{}, map[api.Errno]int{}
	for seed := range 5000 {
		roll := draw(uint64(seed))
		l := drawn(roll)
		if wantCheck(l) != api.OK {
			t.Fatalf("seed %d: %+v", seed, l)
		}
		for range roll(3) {
			spoil(roll, &l)
		}
		path := drawnSteps(roll, l)
		_, err := wantLength(l, path)
		checks[wantCheck(l)]++
		ways[err]++
		expectCalls(t, l, path)
	}
	for _, err := range []api.Errno{api.OK, api.ErrArg, api.ErrNone, api.ErrThere, api.ErrEnd} {
		if checks[err] < 50 || err != api.ErrNone && err != api.ErrThere && ways[err] < 250 {
			t.Errorf("error %d: %d layouts, %d paths", err, checks[err], ways[err])
		}
	}
}

// P13.4

// sameAfter reports whether b may follow a, as After says.
func sameAfter(l api.Topo, a, b api.Step) bool { return slices.Contains(After(l, a), b) }

// If b may follow a, then the reverse of a may follow the reverse of b.
func TestWhatFollowsBothWays(t *testing.T) {
	follow := 0
	for seed := range 2000 {
		roll := draw(uint64(seed))
		l := drawn(roll)
		for range roll(3) {
			spoil(roll, &l)
		}
		for _, a := range steps(len(l.Edges)) {
			for _, b := range steps(len(l.Edges)) {
				back := Back([]api.Step{a, b})
				if sameAfter(l, a, b) != sameAfter(l, back[0], back[1]) {
					t.Fatalf("%+v, %+v, %+v: %v, back %v", l, a, b, sameAfter(l, a, b), !sameAfter(l, a, b))
				}
				if sameAfter(l, a, b) {
					follow++
				}
			}
		}
	}
	if follow < 10000 {
		t.Errorf("%d steps follow", follow)
	}
}

func TestBackTwiceAndItsLength(t *testing.T) {
	seen := map[api.Errno]int{}
	for seed := range 10000 {
		roll := draw(uint64(seed))
		l := drawn(roll)
		path := drawnSteps(roll, l)
		if twice := Back(Back(path)); !slices.Equal(twice, path) {
			t.Fatalf("%+v: back twice %+v", path, twice)
		}
		n, err := Length(l, path)
		m, backErr := Length(l, Back(path))
		if n != m || err != backErr {
			t.Fatalf("%+v, %+v: %d %d, back %d %d", l, path, n, err, m, backErr)
		}
		seen[err]++
	}
	for _, err := range []api.Errno{api.OK, api.ErrArg, api.ErrEnd} {
		if seen[err] < 500 {
			t.Errorf("error %d: %d paths", err, seen[err])
		}
	}
}

// The path of each route of a valid layout is a way.
func TestRoutesAreWays(t *testing.T) {
	routes := 0
	for seed := range 10000 {
		roll := draw(uint64(seed))
		l := drawn(roll)
		for range roll(3) {
			spoil(roll, &l)
		}
		if Check(l) != api.OK {
			continue
		}
		for _, r := range l.Routes {
			for i := 1; i < len(r.Path); i++ {
				if !sameAfter(l, r.Path[i-1], r.Path[i]) {
					t.Fatalf("%+v: route %d is no way", l, r.ID)
				}
			}
			n, err := Length(l, r.Path)
			if other, ok := Route(l, r.ID); err != api.OK || r.Gap >= n || !ok || !sameRoute(other, r) {
				t.Fatalf("%+v: route %d: %d %d %+v", l, r.ID, n, err, other)
			}
			for _, s := range r.Path {
				if !slices.ContainsFunc(l.Bals, func(b api.Bal) bool { return b.Edge == s.Edge }) {
					t.Fatalf("%+v: route %d over %+v", l, r.ID, s)
				}
			}
			routes++
		}
	}
	if routes < 5000 {
		t.Errorf("%d routes", routes)
	}
}

// R5: nothing is kept between calls, so layouts do not affect one another.
func TestLayoutsAreApart(t *testing.T) {
	one, other := example(), line(4)
	for i := range 3 {
		expectAfter(t, one, on(0), on(1), back(2))
		expectAfter(t, other, on(0), on(1))
		expectLength(t, one, []api.Step{on(0), back(2)}, 400, api.OK)
		expectLength(t, other, []api.Step{on(0), back(2)}, 0, api.ErrEnd)
		expectBal(t, one, 8, 1)
		expectBal(t, other, 8, -1)
		expectRoute(t, one, 1, 0)
		expectRoute(t, other, 1, -1)
		other.Edges[3] = -i
		expectCheck(t, one, api.OK)
		expectCheck(t, other, api.ErrArg)
	}
	one.Joints[1] = joined(2, 0, 0, 1)
	expectAfter(t, one, on(0), on(1), on(2))
	expectLength(t, one, []api.Step{on(0), back(2)}, 0, api.ErrEnd)
}
