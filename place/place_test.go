package place

import (
	"iter"
	"math"
	"reflect"
	"slices"
	"testing"

	"lineside/api"
	"lineside/topo"
)

// The rules of the chapter written anew: one decimetre is gone after the other.
// What is said of layouts and paths they ask package topo.

func wantRight(l api.Topo, p api.Pos) bool {
	return topo.Check(l) == 0 && p.Edge >= 0 && p.Edge < len(l.Edges) && p.At >= 0 && p.At <= l.Edges[p.Edge]
}

// spots yields the positions along path, decimetre by decimetre, each behind its
// distance. A step's last one is as far as the next step's first one.
func spots(l api.Topo, path []api.Step) iter.Seq2[int, api.Pos] {
	return func(yield func(int, api.Pos) bool) {
		n := 0
		for _, s := range path {
			p := entry(l, s)
			for d := range l.Edges[s.Edge] + 1 {
				if !yield(n+d, p) {
					return
				}
				p.At += ahead(s.Rev)
			}
			n += l.Edges[s.Edge]
		}
	}
}

// entry and exit return the first and the last position of a step.
func entry(l api.Topo, s api.Step) api.Pos {
	if s.Rev {
		return api.Pos{Edge: s.Edge, At: l.Edges[s.Edge], Rev: true}
	}
	return api.Pos{Edge: s.Edge}
}

func exit(l api.Topo, s api.Step) api.Pos {
	p := entry(l, api.Step{Edge: s.Edge, Rev: !s.Rev})
	p.Rev = s.Rev
	return p
}

// ahead returns by how much At changes with each decimetre.
func ahead(rev bool) int {
	if rev {
		return -1
	}
	return 1
}

func wantWalk(l api.Topo, p api.Pos, n int) (api.Pos, api.Errno) {
	if !wantRight(l, p) || n < 0 || n > 1<<40 {
		return api.Pos{}, 1
	}
	gone := 0
	for range n {
		if s := (api.Step{Edge: p.Edge, Rev: p.Rev}); p == exit(l, s) {
			after := topo.After(l, s)
			if len(after) == 0 {
				return api.Pos{}, 141
			}
			if len(after) > 1 {
				return api.Pos{}, 140
			}
			if gone++; gone > 40 {
				return api.Pos{}, 2
			}
			p = entry(l, after[0])
		}
		p.At += ahead(p.Rev)
	}
	return p, 0
}

func wantLocate(l api.Topo, id int, rev bool, n int) (api.Pos, api.Errno) {
	if topo.Check(l) != 0 {
		return api.Pos{}, 1
	}
	for _, b := range l.Bals {
		if b.ID == id {
			return wantWalk(l, api.Pos{Edge: b.Edge, At: b.At, Rev: rev}, n)
		}
	}
	return api.Pos{}, 4
}

func wantOn(l api.Topo, path []api.Step, p api.Pos) (int, api.Errno) {
	if !wantRight(l, p) {
		return 0, 1
	}
	if _, err := topo.Length(l, path); err != 0 {
		return 0, err
	}
	for n, q := range spots(l, path) {
		if q == p {
			return n, 0
		}
	}
	return 0, 4
}

func wantOff(l api.Topo, path []api.Step, n int) (api.Pos, api.Errno) {
	if topo.Check(l) != 0 {
		return api.Pos{}, 1
	}
	if _, err := topo.Length(l, path); err != 0 {
		return api.Pos{}, err
	}
	for m, p := range spots(l, path) {
		if m == n {
			return p, 0
		}
	}
	return api.Pos{}, 1
}

// Calls, their results, and what is handed in.

// roomy returns a copy of list with room behind it.
func roomy[T any](list []T) []T { return append(make([]T, 0, len(list)+2), list...) }

func roomyTopo(l api.Topo) api.Topo {
	m := api.Topo{Edges: roomy(l.Edges), Joints: roomy(l.Joints), Bals: roomy(l.Bals), Routes: roomy(l.Routes)}
	for i := range m.Routes {
		m.Routes[i].Path = roomy(m.Routes[i].Path)
	}
	return m
}

// wholeTopo returns l with the room behind its lists.
func wholeTopo(l api.Topo) api.Topo {
	m := api.Topo{Edges: l.Edges[:cap(l.Edges)], Joints: l.Joints[:cap(l.Joints)], Bals: l.Bals[:cap(l.Bals)]}
	for _, r := range l.Routes[:cap(l.Routes)] {
		r.Path = r.Path[:cap(r.Path)]
		m.Routes = append(m.Routes, r)
	}
	return m
}

// expectKept makes a call with copies of l and path, and checks that they are as
// they were after it.
func expectKept(t *testing.T, l api.Topo, path []api.Step, call func(l api.Topo, path []api.Step)) {
	t.Helper()
	m, steps := roomyTopo(l), roomy(path)
	call(m, steps)
	if !reflect.DeepEqual(wholeTopo(m), wholeTopo(roomyTopo(l))) || !slices.Equal(steps[:cap(steps)], append(slices.Clone(path), api.Step{}, api.Step{})) {
		t.Fatalf("a call changes what it is given: %+v %+v, before %+v %+v", wholeTopo(m), steps, l, path)
	}
}

func expectRight(t *testing.T, l api.Topo, p api.Pos, want bool) {
	t.Helper()
	if other := wantRight(l, p); other != want {
		t.Fatalf("the chapter says %v of %+v on %+v, want %v", other, p, l, want)
	}
	expectKept(t, l, nil, func(l api.Topo, _ []api.Step) {
		if have := Right(l, p); have != want {
			t.Fatalf("Right(%+v, %+v): %v, want %v", l, p, have, want)
		}
	})
}

func expectTurn(t *testing.T, p, want api.Pos) {
	t.Helper()
	if have := Turn(p); have != want {
		t.Fatalf("Turn(%+v): %+v, want %+v", p, have, want)
	}
	if have := Turn(Turn(p)); have != p {
		t.Fatalf("Turn(Turn(%+v)): %+v", p, have)
	}
}

func expectWalk(t *testing.T, l api.Topo, p api.Pos, n int, want api.Pos, wantErr api.Errno) {
	t.Helper()
	if q, err := wantWalk(l, p, n); q != want || err != wantErr {
		t.Fatalf("the chapter says %+v %d of %d from %+v on %+v, want %+v %d", q, err, n, p, l, want, wantErr)
	}
	expectKept(t, l, nil, func(l api.Topo, _ []api.Step) {
		if q, err := Walk(l, p, n); q != want || err != wantErr {
			t.Fatalf("Walk(%+v, %+v, %d): %+v %d, want %+v %d", l, p, n, q, err, want, wantErr)
		}
	})
}

func expectLocate(t *testing.T, l api.Topo, id int, rev bool, n int, want api.Pos, wantErr api.Errno) {
	t.Helper()
	if p, err := wantLocate(l, id, rev, n); p != want || err != wantErr {
		t.Fatalf("the chapter says %+v %d of %d from group %d, %v, on %+v, want %+v %d", p, err, n, id, rev, l, want, wantErr)
	}
	expectKept(t, l, nil, func(l api.Topo, _ []api.Step) {
		if p, err := Locate(l, id, rev, n); p != want || err != wantErr {
			t.Fatalf("Locate(%+v, %d, %v, %d): %+v %d, want %+v %d", l, id, rev, n, p, err, want, wantErr)
		}
	})
}

func expectOn(t *testing.T, l api.Topo, path []api.Step, p api.Pos, want int, wantErr api.Errno) {
	t.Helper()
	if n, err := wantOn(l, path, p); n != want || err != wantErr {
		t.Fatalf("the chapter says %d %d of %+v on %+v of %+v, want %d %d", n, err, p, path, l, want, wantErr)
	}
	expectKept(t, l, path, func(l api.Topo, path []api.Step) {
		if n, err := On(l, path, p); n != want || err != wantErr {
			t.Fatalf("On(%+v, %+v, %+v): %d %d, want %d %d", l, path, p, n, err, want, wantErr)
		}
	})
}

func expectOff(t *testing.T, l api.Topo, path []api.Step, n int, want api.Pos, wantErr api.Errno) {
	t.Helper()
	if p, err := wantOff(l, path, n); p != want || err != wantErr {
		t.Fatalf("the chapter says %+v %d of %d on %+v of %+v, want %+v %d", p, err, n, path, l, want, wantErr)
	}
	expectKept(t, l, path, func(l api.Topo, path []api.Step) {
		if p, err := Off(l, path, n); p != want || err != wantErr {
			t.Fatalf("Off(%+v, %+v, %d): %+v %d, want %+v %d", l, path, n, p, err, want, wantErr)
		}
	})
}

// Layouts, positions and paths to begin with.

// to and fro write positions that face the end and the beginning of their edge.
func to(edge, at int) api.Pos { return api.Pos{Edge: edge, At: at} }

func fro(edge, at int) api.Pos { return api.Pos{Edge: edge, At: at, Rev: true} }

// none is beside every error.
var none api.Pos

// on and back write steps, and over a path of steps without Rev.
func on(edge int) api.Step { return api.Step{Edge: edge} }

func back(edge int) api.Step { return api.Step{Edge: edge, Rev: true} }

func over(edges ...int) []api.Step {
	var path []api.Step
	for _, n := range edges {
		path = append(path, on(n))
	}
	return path
}

// joined writes a joint: which edge, and At which of its ends, twice.
func joined(a, atA, b, atB int) api.Joint {
	return api.Joint{A: api.End{Edge: a, At: atA}, B: api.End{Edge: b, At: atB}}
}

// example returns the layout of the example in chapter 13, with balise groups and
// a route.
func example() api.Topo {
	return api.Topo{
		Edges:  []int{100, 200, 300},
		Joints: []api.Joint{joined(0, 1, 1, 0), joined(0, 1, 2, 1)},
		Bals:   []api.Bal{{ID: 7, At: 40}, {ID: 8, Edge: 1, At: 200}, {ID: 9, Edge: 2}},
		Routes: []api.Route{{ID: 1, Path: over(0, 1), Gap: 10, Timer: 60}},
	}
}

// line returns n edges of the lengths 3, 4 and so on, one behind the other.
func line(n int) api.Topo {
	var l api.Topo
	for i := range n {
		l.Edges = append(l.Edges, i+3)
		if i > 0 {
			l.Joints = append(l.Joints, joined(i-1, 1, i, 0))
		}
	}
	return l
}

// lineTo returns the distance along line from its beginning to that of edge n.
func lineTo(n int) int { return n * (n + 5) / 2 }

// ring returns line(n) with its end joined to its beginning.
func ring(n int) api.Topo {
	l := line(n)
	l.Joints = append(l.Joints, joined(n-1, 1, 0, 0))
	return l
}

// loop returns an edge of the length 10 to whose end a loop of the edges 1 and 2,
// of the lengths 20 and 30, is joined.
func loop() api.Topo {
	return api.Topo{
		Edges:  []int{10, 20, 30},
		Joints: []api.Joint{joined(0, 1, 1, 0), joined(1, 1, 2, 0), joined(0, 1, 2, 1)},
	}
}

// invalid returns layouts that are not valid. Each has the edges 0 to 2 of the
// example, or more, and lets one go from edge 0 to edge 1.
func invalid() []api.Topo {
	spoil := []func(l *api.Topo){
		func(l *api.Topo) { l.Edges = append(l.Edges, make([]int, 38)...) },
		func(l *api.Topo) { l.Edges = append(l.Edges, slices.Repeat([]int{5}, 38)...) },
		func(l *api.Topo) { l.Edges = append(l.Edges, 0) },
		func(l *api.Topo) { l.Edges = append(l.Edges, -5) },
		func(l *api.Topo) { l.Edges = append(l.Edges, 1000001) },
		func(l *api.Topo) { l.Edges[2] = 1000001 },
		func(l *api.Topo) { l.Joints = slices.Repeat(l.Joints, 41) },
		func(l *api.Topo) { l.Joints = append(l.Joints, joined(1, 1, 1, 1)) },
		func(l *api.Topo) { l.Joints = append(l.Joints, joined(1, 1, 3, 0)) },
		func(l *api.Topo) { l.Joints = append(l.Joints, joined(1, 0, 0, 1)) },
		func(l *api.Topo) { l.Joints[1].B.At = 2 },
		func(l *api.Topo) { l.Bals = append(l.Bals, api.Bal{ID: 7}) },
		func(l *api.Topo) { l.Bals = append(l.Bals, api.Bal{ID: 10, At: 101}) },
		func(l *api.Topo) { l.Routes = slices.Repeat(l.Routes, 31) },
		func(l *api.Topo) { l.Routes = append(l.Routes, l.Routes[0]) },
		func(l *api.Topo) { l.Routes[0].Gap = 300 },
		func(l *api.Topo) { l.Routes[0].Timer = 0 },
		func(l *api.Topo) { l.Routes[0].Path[1].Rev = true },
	}
	var list []api.Topo
	for _, f := range spoil {
		l := example()
		f(&l)
		list = append(list, l)
	}
	return list
}

// outside returns numbers below 0 and above most. Cut to 32 bits, some of them
// would lie between.
func outside(most int) []int {
	return []int{
		math.MinInt, math.MinInt + 1, -1 << 62, -1<<42 + most, -1 << 40, -1 << 32, -most - 1, -2, -1,
		most + 1, most + 2, 2*most + 2, 1<<32 + most, 1<<42 + most, 1 << 62, math.MaxInt - 1, math.MaxInt,
	}
}

// both returns the position edge, at, facing either way.
func both(edge, at int) []api.Pos { return []api.Pos{to(edge, at), fro(edge, at)} }

// The limits and errors of the chapter are those of api.

func TestLimits(t *testing.T) {
	have := []int{api.MaxDm, api.MaxEdges, int(api.OK), int(api.ErrArg), int(api.ErrLong), int(api.ErrNone), int(api.ErrFork), int(api.ErrEnd)}
	if want := []int{1099511627776, 40, 0, 1, 2, 4, 140, 141}; !slices.Equal(have, want) {
		t.Errorf("%v, want %v", have, want)
	}
}

// The chapter's examples.

func TestExamples(t *testing.T) {
	l := example()
	expectWalk(t, l, fro(1, 150), 200, fro(0, 50), api.OK)
	expectWalk(t, l, to(0, 50), 50, to(0, 100), api.OK)
	expectWalk(t, l, to(0, 50), 51, none, api.ErrFork)
	expectOn(t, l, over(0, 1), to(1, 30), 130, api.OK)
}

// P14.1

func TestRight(t *testing.T) {
	for _, l := range []api.Topo{example(), line(1), line(40), ring(7), loop(), {Edges: []int{1}}, {Edges: []int{1000000, 1}}} {
		for edge, length := range l.Edges {
			for _, at := range []int{0, 1, length / 2, length - 1, length} {
				for _, p := range both(edge, at) {
					expectRight(t, l, p, true)
				}
			}
			for _, at := range outside(length) {
				for _, p := range both(edge, at) {
					expectRight(t, l, p, false)
				}
			}
		}
		for _, edge := range outside(len(l.Edges) - 1) {
			for _, at := range []int{-1, 0, 1} {
				for _, p := range both(edge, at) {
					expectRight(t, l, p, false)
				}
			}
		}
	}
}

// At is held against the length of the edge of p, not against that of another.
func TestRightOnEachEdge(t *testing.T) {
	l := example()
	for edge, length := range []int{100, 200, 300} {
		for at := range 302 {
			expectRight(t, l, to(edge, at), at <= length)
			expectRight(t, l, fro(edge, at), at <= length)
		}
	}
}

func TestRightOnLayoutsThatAreNotValid(t *testing.T) {
	for _, l := range append(invalid(), api.Topo{Edges: []int{0}}, api.Topo{Edges: []int{100}, Joints: []api.Joint{{}}}) {
		for _, p := range append(both(0, 0), both(0, 50)...) {
			expectRight(t, l, p, false)
		}
	}
}

func TestRightOnAnEmptyLayout(t *testing.T) {
	for _, edge := range []int{-1, 0, 1, math.MinInt, math.MaxInt} {
		for _, at := range []int{-1, 0, 1} {
			for _, p := range both(edge, at) {
				expectRight(t, api.Topo{}, p, false)
			}
		}
	}
}

func TestTurn(t *testing.T) {
	for _, edge := range []int{0, 1, 2, 39, 40, -1, 1 << 32, math.MinInt, math.MaxInt} {
		for _, at := range []int{0, 1, 50, 1000000, 1000001, -1, 1 << 32, math.MinInt, math.MaxInt} {
			expectTurn(t, to(edge, at), fro(edge, at))
			expectTurn(t, fro(edge, at), to(edge, at))
		}
	}
}

// P14.2

func TestWalkOfNothing(t *testing.T) {
	for _, l := range []api.Topo{example(), loop(), ring(1), ring(40), {Edges: []int{1}}} {
		for edge, length := range l.Edges {
			for at := range length + 1 {
				for _, p := range both(edge, at) {
					expectWalk(t, l, p, 0, p, api.OK)
				}
			}
		}
	}
}

// A distance that ends at the end of an edge stays on it; one more leaves it.
func TestWalkToTheEndOfTheEdge(t *testing.T) {
	l := example()
	for at := range 101 {
		expectWalk(t, l, to(0, at), 100-at, to(0, 100), api.OK)
		expectWalk(t, l, to(0, at), 101-at, none, api.ErrFork)
		expectWalk(t, l, fro(0, at), at, fro(0, 0), api.OK)
		expectWalk(t, l, fro(0, at), at+1, none, api.ErrEnd)
	}
	for at := range 201 {
		expectWalk(t, l, to(1, at), 200-at, to(1, 200), api.OK)
		expectWalk(t, l, to(1, at), 201-at, none, api.ErrEnd)
		expectWalk(t, l, fro(1, at), at, fro(1, 0), api.OK)
		expectWalk(t, l, fro(1, at), at+1, fro(0, 99), api.OK)
		expectWalk(t, l, fro(1, at), at+100, fro(0, 0), api.OK)
		expectWalk(t, l, fro(1, at), at+101, none, api.ErrEnd)
	}
	for at := range 301 {
		expectWalk(t, l, to(2, at), 300-at, to(2, 300), api.OK)
		expectWalk(t, l, to(2, at), 301-at, fro(0, 99), api.OK)
		expectWalk(t, l, to(2, at), 400-at, fro(0, 0), api.OK)
		expectWalk(t, l, to(2, at), 401-at, none, api.ErrEnd)
		expectWalk(t, l, fro(2, at), at, fro(2, 0), api.OK)
		expectWalk(t, l, fro(2, at), at+1, none, api.ErrEnd)
	}
}

// The end of one edge and the beginning of the next one are two positions: the
// walk leaves the first one only if it goes on.
func TestWalkFromTheEndsOfEdges(t *testing.T) {
	l := line(3)
	expectWalk(t, l, to(0, 3), 0, to(0, 3), api.OK)
	expectWalk(t, l, to(0, 3), 1, to(1, 1), api.OK)
	expectWalk(t, l, to(1, 0), 0, to(1, 0), api.OK)
	expectWalk(t, l, to(1, 0), 1, to(1, 1), api.OK)
	expectWalk(t, l, fro(1, 0), 0, fro(1, 0), api.OK)
	expectWalk(t, l, fro(1, 0), 1, fro(0, 2), api.OK)
	expectWalk(t, l, fro(0, 3), 0, fro(0, 3), api.OK)
	expectWalk(t, l, fro(0, 3), 1, fro(0, 2), api.OK)
	expectWalk(t, l, to(2, 5), 1, none, api.ErrEnd)
	expectWalk(t, l, fro(0, 0), 1, none, api.ErrEnd)
}

func TestWalkAlongLines(t *testing.T) {
	for _, size := range []int{1, 2, 3, 39, 40} {
		l := line(size)
		whole := lineTo(size)
		for edge, length := range l.Edges {
			for _, at := range []int{0, 1, length - 1, length} {
				before := lineTo(edge) + at
				expectWalk(t, l, to(edge, at), whole-before, to(size-1, size+2), api.OK)
				expectWalk(t, l, to(edge, at), whole-before+1, none, api.ErrEnd)
				expectWalk(t, l, fro(edge, at), before, fro(0, 0), api.OK)
				expectWalk(t, l, fro(edge, at), before+1, none, api.ErrEnd)
				if at > 0 {
					expectWalk(t, l, to(0, 0), before, to(edge, at), api.OK)
				}
				if at < length {
					expectWalk(t, l, fro(size-1, size+2), whole-before, fro(edge, at), api.OK)
				}
			}
		}
	}
}

func TestWalkOfDistancesThatMayNotBe(t *testing.T) {
	for _, l := range []api.Topo{example(), ring(3)} {
		for _, p := range append(both(0, 0), both(1, 4)...) {
			for _, n := range outside(1 << 40) {
				expectWalk(t, l, p, n, none, api.ErrArg)
			}
		}
	}
}

// The greatest distances lead beyond every layout, but may be asked for.
func TestWalkOfTheGreatestDistances(t *testing.T) {
	for _, n := range []int{1 << 31, 1 << 32, 1<<32 + 1, 1<<40 - 1, 1 << 40} {
		expectWalk(t, example(), to(0, 50), n, none, api.ErrFork)
		expectWalk(t, example(), to(1, 50), n, none, api.ErrEnd)
		expectWalk(t, example(), fro(1, 50), n, none, api.ErrEnd)
		expectWalk(t, line(40), to(0, 0), n, none, api.ErrEnd)
		expectWalk(t, ring(40), to(0, 0), n, none, api.ErrLong)
		expectWalk(t, ring(1), fro(0, 3), n, none, api.ErrLong)
	}
}

func TestWalkOverTheLongestEdges(t *testing.T) {
	l := ring(40)
	for i := range l.Edges {
		l.Edges[i] = 1000000
	}
	expectWalk(t, l, to(3, 7), 40999993, to(3, 1000000), api.OK)
	expectWalk(t, l, to(3, 7), 40999994, none, api.ErrLong)
	expectWalk(t, l, fro(3, 7), 40000007, fro(3, 0), api.OK)
	expectWalk(t, l, fro(3, 7), 40000008, none, api.ErrLong)
	expectWalk(t, l, fro(3, 7), 1<<40, none, api.ErrLong)
	expectWalk(t, l, fro(3, 7), 1<<40+1, none, api.ErrArg)
}

func TestWalkFromPositionsThatAreNotRight(t *testing.T) {
	for _, n := range []int{-1, 0, 1, 1 << 40, 1<<40 + 1} {
		for _, edge := range outside(2) {
			expectWalk(t, example(), to(edge, 0), n, none, api.ErrArg)
			expectWalk(t, example(), fro(edge, 0), n, none, api.ErrArg)
		}
		for _, at := range outside(200) {
			expectWalk(t, example(), to(1, at), n, none, api.ErrArg)
			expectWalk(t, example(), fro(1, at), n, none, api.ErrArg)
		}
		for _, l := range append(invalid(), api.Topo{}) {
			expectWalk(t, l, to(0, 0), n, none, api.ErrArg)
			expectWalk(t, l, fro(1, 50), n, none, api.ErrArg)
		}
	}
}

// A joint of an end with itself, which would turn the walk back over the same
// edge, makes the layout one that is not valid.
func TestWalkThatWouldTurnBack(t *testing.T) {
	l := api.Topo{Edges: []int{100}, Joints: []api.Joint{joined(0, 1, 0, 1)}}
	for _, n := range []int{0, 50, 100, 101, 150} {
		expectWalk(t, l, to(0, 0), n, none, api.ErrArg)
		expectWalk(t, l, fro(0, 100), n, none, api.ErrArg)
	}
	l.Joints[0].B.At = 0
	expectWalk(t, l, to(0, 0), 150, to(0, 50), api.OK)
	expectWalk(t, l, fro(0, 100), 150, fro(0, 50), api.OK)
}

// From a loop a walk comes back over the edge that leads to it; the other way
// there are two steps to choose from.
func TestWalkOutOfALoop(t *testing.T) {
	l := loop()
	expectWalk(t, l, to(1, 0), 50, to(2, 30), api.OK)
	expectWalk(t, l, to(1, 0), 51, fro(0, 9), api.OK)
	expectWalk(t, l, to(1, 0), 60, fro(0, 0), api.OK)
	expectWalk(t, l, to(1, 0), 61, none, api.ErrEnd)
	expectWalk(t, l, fro(2, 30), 50, fro(1, 0), api.OK)
	expectWalk(t, l, fro(2, 30), 51, fro(0, 9), api.OK)
	expectWalk(t, l, to(0, 0), 10, to(0, 10), api.OK)
	expectWalk(t, l, to(0, 0), 11, none, api.ErrFork)
}

// Both ends of one edge may be joined to the end of another: over either of them
// the walk goes over the same edge, so that is a fork too.
func TestWalkToBothEndsOfOneEdge(t *testing.T) {
	l := api.Topo{Edges: []int{5, 6}, Joints: []api.Joint{joined(0, 1, 1, 0), joined(0, 1, 1, 1)}}
	expectWalk(t, l, to(0, 0), 5, to(0, 5), api.OK)
	expectWalk(t, l, to(0, 0), 6, none, api.ErrFork)
	expectWalk(t, l, to(1, 0), 7, fro(0, 4), api.OK)
	expectWalk(t, l, fro(1, 6), 7, fro(0, 4), api.OK)
}

// A fork that the walk comes to is one, however many steps there are.
func TestWalkToForks(t *testing.T) {
	for size := 2; size <= 39; size++ {
		l := line(40)
		l.Joints = nil
		for i := range size {
			l.Joints = append(l.Joints, joined(0, 1, i+1, i%2))
		}
		expectWalk(t, l, to(0, 0), 3, to(0, 3), api.OK)
		expectWalk(t, l, to(0, 0), 4, none, api.ErrFork)
		expectWalk(t, l, fro(1, 4), 7, fro(0, 0), api.OK)
		expectWalk(t, l, to(2, 0), 8, fro(0, 0), api.OK)
		expectWalk(t, l, to(2, 0), 9, none, api.ErrEnd)
	}
}

// Around a circle a walk may leave 40 edges, those that it goes over again too.
func TestWalkAroundCircles(t *testing.T) {
	for size := 1; size <= 40; size++ {
		l := ring(size)
		for edge, length := range l.Edges {
			last := (edge + 40) % size
			n := 0
			for i := 1; i < 40; i++ {
				n += l.Edges[(edge+i)%size]
			}
			for _, at := range []int{0, 1, length} {
				expectWalk(t, l, to(edge, at), length-at+n+1, to(last, 1), api.OK)
				expectWalk(t, l, to(edge, at), length-at+n+l.Edges[last], to(last, l.Edges[last]), api.OK)
				expectWalk(t, l, to(edge, at), length-at+n+l.Edges[last]+1, none, api.ErrLong)
			}
			expectWalk(t, l, fro(last, 0), n+length, fro(edge, 0), api.OK)
			expectWalk(t, l, fro(last, 0), n+length+1, none, api.ErrLong)
		}
	}
}

// A walk that ends, or comes to a fork, says so, also where it went over all the
// edges before and should go beyond the 40 that it may leave.
func TestWalkErrorsInOrder(t *testing.T) {
	l := line(40)
	for _, n := range []int{lineTo(40) + 1, 5000, 1 << 40} {
		expectWalk(t, l, to(0, 0), n, none, api.ErrEnd)
		expectWalk(t, l, fro(39, 42), n, none, api.ErrEnd)
	}
	l.Joints = append(l.Joints, joined(39, 1, 0, 0), joined(39, 1, 1, 0))
	for _, n := range []int{lineTo(40) + 1, 5000, 1 << 40} {
		expectWalk(t, l, to(0, 0), n, none, api.ErrFork)
	}
	expectWalk(t, l, to(0, 0), lineTo(40), to(39, 42), api.OK)
	expectWalk(t, l, to(0, 0), 1<<40+1, none, api.ErrArg)
}

func TestLocate(t *testing.T) {
	l := example()
	expectLocate(t, l, 7, false, 0, to(0, 40), api.OK)
	expectLocate(t, l, 7, true, 0, fro(0, 40), api.OK)
	expectLocate(t, l, 7, false, 60, to(0, 100), api.OK)
	expectLocate(t, l, 7, false, 61, none, api.ErrFork)
	expectLocate(t, l, 7, true, 40, fro(0, 0), api.OK)
	expectLocate(t, l, 7, true, 41, none, api.ErrEnd)
	expectLocate(t, l, 8, false, 0, to(1, 200), api.OK)
	expectLocate(t, l, 8, false, 1, none, api.ErrEnd)
	expectLocate(t, l, 8, true, 250, fro(0, 50), api.OK)
	expectLocate(t, l, 9, false, 320, fro(0, 80), api.OK)
	expectLocate(t, l, 9, true, 0, fro(2, 0), api.OK)
	expectLocate(t, l, 9, true, 1, none, api.ErrEnd)
	m := ring(40)
	m.Bals = []api.Bal{{ID: 0, Edge: 5, At: 2}, {ID: 16777214, Edge: 5, At: 2}, {ID: 3, Edge: 39, At: 42}}
	for _, id := range []int{0, 16777214} {
		expectLocate(t, m, id, false, 7, to(6, 1), api.OK)
		expectLocate(t, m, id, true, 7, fro(4, 2), api.OK)
		expectLocate(t, m, id, false, lineTo(40)+6, to(5, 8), api.OK)
		expectLocate(t, m, id, false, lineTo(40)+7, none, api.ErrLong)
		expectLocate(t, m, id, false, 1<<40, none, api.ErrLong)
	}
	expectLocate(t, m, 3, false, 1, to(0, 1), api.OK)
}

func TestLocateOfIDsThatNoBalHas(t *testing.T) {
	for _, id := range []int{math.MinInt, -1 << 32, -7, -1, 0, 1, 2, 6, 10, 40, 16777214, 1<<32 + 7, math.MaxInt} {
		for _, n := range []int{-1, 0, 1, 1 << 40, 1<<40 + 1} {
			expectLocate(t, example(), id, false, n, none, api.ErrNone)
			expectLocate(t, example(), id, true, n, none, api.ErrNone)
			expectLocate(t, api.Topo{}, id, true, n, none, api.ErrNone)
		}
	}
}

func TestLocateOfDistancesThatMayNotBe(t *testing.T) {
	for _, n := range outside(1 << 40) {
		for _, id := range []int{7, 8, 9} {
			expectLocate(t, example(), id, false, n, none, api.ErrArg)
			expectLocate(t, example(), id, true, n, none, api.ErrArg)
		}
	}
}

// That a layout is not valid is found before that it has no such balise group.
func TestLocateOnLayoutsThatAreNotValid(t *testing.T) {
	for _, l := range invalid() {
		for _, id := range []int{-1, 0, 7, 8, 100} {
			for _, n := range []int{-1, 0, 1, 1 << 40} {
				expectLocate(t, l, id, false, n, none, api.ErrArg)
				expectLocate(t, l, id, true, n, none, api.ErrArg)
			}
		}
	}
}

// P14.3

func TestOn(t *testing.T) {
	l := example()
	paths := [][]api.Step{over(0), over(0, 1), {on(0), back(2)}, {back(1), back(0)}, {on(2), back(0)}, {back(2)}}
	for _, path := range paths {
		length := 0
		for _, s := range path {
			for d := range l.Edges[s.Edge] + 1 {
				p := to(s.Edge, d)
				if s.Rev {
					p = fro(s.Edge, l.Edges[s.Edge]-d)
				}
				expectOn(t, l, path, p, length+d, api.OK)
				expectOn(t, l, path, Turn(p), 0, api.ErrNone)
			}
			length += l.Edges[s.Edge]
		}
	}
	expectOn(t, l, over(0, 1), to(2, 0), 0, api.ErrNone)
	expectOn(t, l, over(0, 1), fro(2, 300), 0, api.ErrNone)
	expectOn(t, l, over(1), to(0, 100), 0, api.ErrNone)
}

func TestOff(t *testing.T) {
	l := example()
	for _, path := range [][]api.Step{over(0), over(0, 1), {on(0), back(2)}, {back(1), back(0)}, {on(2), back(0)}, {back(2)}} {
		expectOff(t, l, path, 0, entry(l, path[0]), api.OK)
		length := 0
		for _, s := range path {
			for d := 1; d <= l.Edges[s.Edge]; d++ {
				want := to(s.Edge, d)
				if s.Rev {
					want = fro(s.Edge, l.Edges[s.Edge]-d)
				}
				expectOff(t, l, path, length+d, want, api.OK)
			}
			length += l.Edges[s.Edge]
		}
		for _, n := range outside(length) {
			expectOff(t, l, path, n, none, api.ErrArg)
		}
	}
}

// A position at the end of an edge lies on that edge, one decimetre more is on
// the next one.
func TestOffAtTheEndsOfEdges(t *testing.T) {
	l := line(40)
	var path []api.Step
	for i := range 40 {
		path = append(path, on(i))
	}
	ways := [][]api.Step{path, topo.Back(path)}
	for i := range 40 {
		expectOff(t, l, ways[0], lineTo(i+1), to(i, i+3), api.OK)
		expectOn(t, l, ways[0], to(i, i+3), lineTo(i+1), api.OK)
		expectOn(t, l, ways[0], to(i, 0), lineTo(i), api.OK)
		expectOff(t, l, ways[1], lineTo(40)-lineTo(i), fro(i, 0), api.OK)
		expectOn(t, l, ways[1], fro(i, 0), lineTo(40)-lineTo(i), api.OK)
		expectOn(t, l, ways[1], fro(i, i+3), lineTo(40)-lineTo(i+1), api.OK)
		if i > 0 {
			expectOff(t, l, ways[0], lineTo(i)+1, to(i, 1), api.OK)
			expectOff(t, l, ways[1], lineTo(40)-lineTo(i)+1, fro(i-1, i+1), api.OK)
		}
	}
	expectOff(t, l, ways[0], lineTo(40)+1, none, api.ErrArg)
	expectOff(t, l, ways[1], lineTo(40)+1, none, api.ErrArg)
}

// Over an edge several times the first step counts, as long as it goes the way
// that the position faces.
func TestOnAndOffOverAnEdgeSeveralTimes(t *testing.T) {
	l := ring(2)
	path := over(1, 0, 1, 0, 1)
	for d, p := range []api.Pos{to(1, 0), to(1, 1), to(1, 2), to(1, 3), to(1, 4), to(0, 1), to(0, 2), to(0, 3)} {
		expectOn(t, l, path, p, d, api.OK)
		expectOff(t, l, path, d, p, api.OK)
		if d > 0 {
			expectOff(t, l, path, d+7, p, api.OK)
		}
	}
	expectOn(t, l, path, to(0, 0), 4, api.OK)
	expectOff(t, l, path, 18, to(1, 4), api.OK)
	expectOff(t, l, path, 19, none, api.ErrArg)
	m := loop()
	around := []api.Step{on(0), on(1), on(2), back(0)}
	expectOn(t, m, around, to(0, 3), 3, api.OK)
	expectOn(t, m, around, fro(0, 3), 67, api.OK)
	expectOff(t, m, around, 67, fro(0, 3), api.OK)
	expectOff(t, m, around, 70, fro(0, 0), api.OK)
	expectOn(t, m, around, fro(1, 3), 0, api.ErrNone)
	expectOn(t, m, around[1:], to(0, 3), 0, api.ErrNone)
	expectOn(t, m, around[:3], fro(0, 3), 0, api.ErrNone)
}

// A path has 1 to 40 steps.
func TestOnAndOffOfNumbersOfSteps(t *testing.T) {
	l := ring(1)
	for _, size := range []int{1, 2, 39, 40} {
		path := slices.Repeat(over(0), size)
		expectOn(t, l, path, to(0, 2), 2, api.OK)
		expectOn(t, l, path, fro(0, 2), 0, api.ErrNone)
		expectOff(t, l, path, 0, to(0, 0), api.OK)
		expectOff(t, l, path, 3*size, to(0, 3), api.OK)
		expectOff(t, l, path, 3*size+1, none, api.ErrArg)
		expectOff(t, l, path, -1, none, api.ErrArg)
	}
	for _, size := range []int{0, 41, 42, 80, 296, 1 << 16} {
		path := slices.Repeat(over(0), size)
		expectOn(t, l, path, to(0, 2), 0, api.ErrArg)
		expectOff(t, l, path, 0, none, api.ErrArg)
		expectOff(t, l, path, 3, none, api.ErrArg)
	}
	expectOn(t, l, nil, to(0, 2), 0, api.ErrArg)
	expectOff(t, l, nil, 0, none, api.ErrArg)
}

func TestOnAndOffOverTheLongestEdges(t *testing.T) {
	l := ring(2)
	l.Edges = []int{1000000, 999999}
	path := over(0, 1, 0)
	expectOn(t, l, path, to(1, 999998), 1999998, api.OK)
	expectOff(t, l, path, 2999999, to(0, 1000000), api.OK)
	expectOff(t, l, path, 3000000, none, api.ErrArg)
	expectOff(t, l, topo.Back(path), 1000003, fro(1, 999996), api.OK)
	expectOn(t, l, topo.Back(path), fro(1, 999996), 1000003, api.OK)
}

// The longest path is 40 edges of the greatest length.
func TestOnAndOffAlongTheLongestPath(t *testing.T) {
	l := ring(40)
	for i := range l.Edges {
		l.Edges[i] = 1000000
	}
	var path []api.Step
	for i := range 40 {
		path = append(path, back(39-i))
	}
	expectOff(t, l, path, 40000000, fro(0, 0), api.OK)
	expectOn(t, l, path, fro(0, 0), 40000000, api.OK)
	expectOff(t, l, path, 39000001, fro(0, 999999), api.OK)
	for _, n := range []int{-1, 40000001, 1<<32 + 5, 1 << 40, math.MaxInt, math.MinInt} {
		if p, err := Off(l, path, n); p != none || err != api.ErrArg {
			t.Errorf("%d: %+v %d", n, p, err)
		}
	}
}

// badPaths returns paths over the example, and what is wrong with them.
func badPaths() map[api.Errno][][]api.Step {
	return map[api.Errno][][]api.Step{
		api.ErrArg: {nil, {}, slices.Repeat(over(0), 41), over(3), over(-1), over(0, 3), over(-1, 0), over(0, 1, math.MaxInt), over(2, 1, 3)},
		api.ErrEnd: {over(0, 0), over(1, 0), over(0, 2), over(1, 2), over(0, 1, 2), {on(0), back(1)}, {on(0), back(0)}, {back(0), on(0)}, slices.Repeat(over(0), 40)},
	}
}

// Of a position that is right the error of the path is found before that the
// position is not on it, or that the distance may not be.
func TestOnAndOffOfPathsThatMayNotBe(t *testing.T) {
	l := example()
	for err, paths := range badPaths() {
		for _, path := range paths {
			for edge, length := range l.Edges {
				for _, at := range []int{0, 50, length} {
					for _, p := range both(edge, at) {
						expectOn(t, l, path, p, 0, err)
					}
				}
			}
			for _, n := range append(outside(300), 0, 1, 100, 101, 200, 300) {
				expectOff(t, l, path, n, none, err)
			}
		}
	}
}

// That a position is not right is found before what is wrong with the path.
func TestOnOfPositionsThatAreNotRight(t *testing.T) {
	l := example()
	paths := append(badPaths()[api.ErrEnd], badPaths()[api.ErrArg]...)
	for _, path := range append(paths, over(0), over(0, 1), []api.Step{on(2), back(0)}) {
		for _, edge := range outside(2) {
			expectOn(t, l, path, to(edge, 0), 0, api.ErrArg)
			expectOn(t, l, path, fro(edge, 0), 0, api.ErrArg)
		}
		for edge, length := range l.Edges {
			for _, at := range outside(length) {
				expectOn(t, l, path, to(edge, at), 0, api.ErrArg)
				expectOn(t, l, path, fro(edge, at), 0, api.ErrArg)
			}
		}
	}
}

// That a layout is not valid is found first of all.
func TestOnAndOffOnLayoutsThatAreNotValid(t *testing.T) {
	paths := append(badPaths()[api.ErrEnd], badPaths()[api.ErrArg]...)
	for _, l := range append(invalid(), api.Topo{Edges: []int{100, 200, 0}}) {
		for _, path := range append(paths, over(0), over(0, 1)) {
			for _, p := range append(both(0, 50), to(1, 30), to(2, 5), to(0, 101), to(40, 0)) {
				expectOn(t, l, path, p, 0, api.ErrArg)
			}
			for _, n := range []int{-1, 0, 1, 100, 101, 1000} {
				expectOff(t, l, path, n, none, api.ErrArg)
			}
		}
	}
}

// An empty layout is valid, but no path is over it.
func TestOnAndOffOnAnEmptyLayout(t *testing.T) {
	for _, path := range [][]api.Step{nil, over(0), over(-1)} {
		expectOn(t, api.Topo{}, path, none, 0, api.ErrArg)
		for _, n := range []int{-1, 0, 1} {
			expectOff(t, api.Topo{}, path, n, none, api.ErrArg)
		}
	}
}

// P14.1 to P14.3 over layouts that are drawn.

// draw returns a function that returns numbers from 0 to n - 1, which depend on
// the seed alone.
func draw(seed uint64) func(n int) int {
	return func(n int) int {
		seed = seed*6364136223846793005 + 1442695040888963407
		return int(seed>>33) % n
	}
}

// drawnJoint returns a joint of two ends of n edges.
func drawnJoint(roll func(n int) int, n int) api.Joint {
	return joined(roll(n), roll(2), roll(n), roll(2))
}

// taken reports whether a joint of l is at one of the ends of j.
func taken(l api.Topo, j api.Joint) bool {
	return slices.ContainsFunc(l.Joints, func(k api.Joint) bool {
		return k.A == j.A || k.A == j.B || k.B == j.A || k.B == j.B
	})
}

// drawn returns a valid layout. Every other one has no fork.
func drawn(roll func(n int) int) api.Topo {
	var l api.Topo
	for i := range 1 + roll(7) {
		l.Edges = append(l.Edges, 1+roll(9))
		l.Bals = append(l.Bals, api.Bal{ID: 2 * i, Edge: i, At: roll(l.Edges[i] + 1)})
	}
	plain := roll(2) == 0
	for range 4 * roll(len(l.Edges)+1) {
		j := drawnJoint(roll, len(l.Edges))
		if plain && taken(l, j) {
			continue
		}
		l.Joints = append(l.Joints, j)
		if topo.Check(l) != api.OK {
			l.Joints = l.Joints[:len(l.Joints)-1]
		}
	}
	return l
}

// drawnPos returns a position of l.
func drawnPos(roll func(n int) int, l api.Topo) api.Pos {
	edge := roll(len(l.Edges))
	return api.Pos{Edge: edge, At: roll(l.Edges[edge] + 1), Rev: roll(2) == 0}
}

// drawnWay returns a way over l of at most size steps.
func drawnWay(roll func(n int) int, l api.Topo, size int) []api.Step {
	path := []api.Step{{Edge: roll(len(l.Edges)), Rev: roll(2) == 0}}
	for len(path) < size {
		after := topo.After(l, path[len(path)-1])
		if len(after) == 0 {
			break
		}
		path = append(path, after[roll(len(after))])
	}
	return path
}

// spoil changes one thing about a layout, a path or a position, as a rule to what
// it may not be.
func spoil(roll func(n int) int, l *api.Topo, path []api.Step, p *api.Pos) {
	list := []*int{&l.Edges[roll(len(l.Edges))], &l.Bals[0].At, &path[roll(len(path))].Edge, &path[0].Edge, &p.Edge, &p.At}
	if len(l.Joints) > 0 {
		list = append(list, &l.Joints[roll(len(l.Joints))].A.Edge)
	}
	numbers := []int{math.MinInt, -1, 0, 1, len(l.Edges), 10, 1000001, math.MaxInt}
	*list[roll(len(list))] = numbers[roll(len(numbers))]
}

func TestCallsOnDrawnLayouts(t *testing.T) {
	seen := map[string]map[api.Errno]int{"Walk": {}, "Locate": {}, "On": {}, "Off": {}}
	for seed := range 20000 {
		roll := draw(uint64(seed))
		l := drawn(roll)
		path, p := drawnWay(roll, l, 1+roll(42)), drawnPos(roll, l)
		for range roll(3) {
			spoil(roll, &l, path, &p)
		}
		id, rev, n := 2*roll(len(l.Bals)), roll(2) == 0, roll(20)
		if roll(6) == 0 {
			id = roll(16) - 1
		}
		if roll(3) == 0 {
			n = roll(1+roll(300)) - 1
		}
		expectRight(t, l, p, wantRight(l, p))
		q, err := wantWalk(l, p, n)
		expectWalk(t, l, p, n, q, err)
		seen["Walk"][err]++
		q, err = wantLocate(l, id, rev, n)
		expectLocate(t, l, id, rev, n, q, err)
		seen["Locate"][err]++
		d, err := wantOn(l, path, p)
		expectOn(t, l, path, p, d, err)
		seen["On"][err]++
		q, err = wantOff(l, path, n)
		expectOff(t, l, path, n, q, err)
		seen["Off"][err]++
	}
	for what, errs := range map[string][]api.Errno{
		"Walk":   {api.OK, api.ErrArg, api.ErrEnd, api.ErrFork, api.ErrLong},
		"Locate": {api.OK, api.ErrArg, api.ErrEnd, api.ErrFork, api.ErrLong, api.ErrNone},
		"On":     {api.OK, api.ErrArg, api.ErrEnd, api.ErrNone},
		"Off":    {api.OK, api.ErrArg, api.ErrEnd},
	} {
		for _, err := range errs {
			if seen[what][err] < 50 {
				t.Errorf("%s: error %d only %d times", what, err, seen[what][err])
			}
		}
	}
}

// P14.4

// Walking a distance is the same as walking a part of it and then the rest, also
// where the walk has an error. Only the edges that it left are counted anew, so
// that two parts may lead further than one walk that is too long.
func TestWalkInParts(t *testing.T) {
	seen := map[api.Errno]int{}
	for seed := range 20000 {
		roll := draw(uint64(seed))
		l := drawn(roll)
		p, a, b := drawnPos(roll, l), roll(30), roll(30)
		whole, err := Walk(l, p, a+b)
		seen[err]++
		q, partErr := Walk(l, p, a)
		if partErr == api.OK {
			q, partErr = Walk(l, q, b)
		}
		same := q == whole && partErr == err || err == api.ErrLong && partErr == api.OK
		if !same {
			t.Fatalf("%+v, %+v: %d and %d: %+v %d, in one %+v %d", l, p, a, b, q, partErr, whole, err)
		}
	}
	for _, err := range []api.Errno{api.OK, api.ErrEnd, api.ErrFork, api.ErrLong} {
		if seen[err] < 50 {
			t.Errorf("error %d only %d times", err, seen[err])
		}
	}
}

// On is the inverse of Off, as long as no step of the path comes again; where
// one does, On returns a lesser distance of the same position.
func TestOnOfOff(t *testing.T) {
	once, again := 0, 0
	for seed := range 5000 {
		roll := draw(uint64(seed))
		l := drawn(roll)
		path := drawnWay(roll, l, 1+roll(10))
		length, _ := topo.Length(l, path)
		for n := range length + 1 {
			p, err := Off(l, path, n)
			m, onErr := On(l, path, p)
			q, offErr := Off(l, path, m)
			if err != api.OK || onErr != api.OK || offErr != api.OK || m > n || q != p {
				t.Fatalf("%+v, %+v: %d: %+v %d, %d %d, %+v %d", l, path, n, p, err, m, onErr, q, offErr)
			}
			if first := firstSteps(path); slices.Equal(first, path) {
				once++
				if m != n {
					t.Fatalf("%+v, %+v: %d: %+v, which is at %d", l, path, n, p, m)
				}
			} else if m < n {
				again++
			}
		}
	}
	if once < 10000 || again < 10000 {
		t.Errorf("%d and %d positions", once, again)
	}
}

// firstSteps returns the steps of path without those that come again.
func firstSteps(path []api.Step) []api.Step {
	var list []api.Step
	for _, s := range path {
		if !slices.Contains(list, s) {
			list = append(list, s)
		}
	}
	return list
}

// Where a walk leads along a path from one position to another one, On grows by
// the distance walked.
func TestOnAlongAWalk(t *testing.T) {
	walks, short := 0, 0
	for seed := range 10000 {
		roll := draw(uint64(seed))
		l := drawn(roll)
		path := firstSteps(drawnWay(roll, l, 1+roll(8)))
		length, err := topo.Length(l, path)
		if err != api.OK {
			continue
		}
		for from, p := range spots(l, path) {
			to := from + roll(length-from+1)
			q, err := Walk(l, p, to-from)
			if err != api.OK {
				short++
				continue
			}
			walks++
			n, err := On(l, path, p)
			m, toErr := On(l, path, q)
			if n != from || m != to || err != api.OK || toErr != api.OK {
				t.Fatalf("%+v, %+v: from %+v at %d, want %d, to %+v at %d, want %d", l, path, p, n, from, q, m, to)
			}
		}
	}
	if walks < 10000 || short < 1000 {
		t.Errorf("%d walks, %d not along the path", walks, short)
	}
}

// R5: nothing is kept between calls, so layouts do not affect one another.
func TestLayoutsAreApart(t *testing.T) {
	one, other := example(), line(4)
	for range 3 {
		expectWalk(t, one, fro(1, 150), 200, fro(0, 50), api.OK)
		expectWalk(t, other, to(0, 1), 3, to(1, 1), api.OK)
		expectOn(t, one, over(0, 1), to(1, 2), 102, api.OK)
		expectOn(t, other, over(0, 1), to(1, 2), 5, api.OK)
		expectLocate(t, one, 7, false, 1, to(0, 41), api.OK)
		expectLocate(t, other, 7, false, 1, none, api.ErrNone)
	}
	one.Joints = one.Joints[:1]
	expectWalk(t, one, to(0, 50), 51, to(1, 1), api.OK)
	other.Edges[3] = 0
	expectWalk(t, other, to(0, 1), 3, none, api.ErrArg)
}
