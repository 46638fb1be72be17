package lock

import (
	"math"
	"reflect"
	"slices"
	"testing"

	"lineside/api"
	"lineside/topo"
)

// The rules of the chapter written anew: the extent of a route is a set of whole
// edges, as its path traverses each of its edges from one end to the other. What
// is said of layouts and paths they ask package topo.

// wantEdges returns the edges of a route in increasing order, or none if it has
// no extent.
func wantEdges(l api.Topo, route int) []int {
	for _, n := range l.Edges {
		if n <= 0 || n > 1000000 {
			return nil
		}
	}
	for _, r := range l.Routes {
		if r.ID != route {
			continue
		}
		if _, err := topo.Length(l, r.Path); err != 0 {
			return nil
		}
		var edges []int
		for _, s := range r.Path {
			edges = append(edges, s.Edge)
		}
		slices.Sort(edges)
		return slices.Compact(edges)
	}
	return nil
}

// wholeEdges returns the spans of whole edges.
func wholeEdges(l api.Topo, edges ...int) []api.Span {
	var list []api.Span
	for _, n := range edges {
		list = append(list, api.Span{Edge: n, Lo: 0, Hi: l.Edges[n]})
	}
	return list
}

func wantExtent(l api.Topo, route int) []api.Span {
	return wholeEdges(l, wantEdges(l, route)...)
}

// wantClash reports whether two routes have an edge in common.
func wantClash(l api.Topo, a, b int) bool {
	for _, n := range wantEdges(l, a) {
		if slices.Contains(wantEdges(l, b), n) {
			return true
		}
	}
	return false
}

func wantTrain(n int) bool { return 0 <= n && n <= 16777215 }

func wantRoute(l api.Topo, route int) bool {
	for _, r := range l.Routes {
		if r.ID == route {
			return true
		}
	}
	return false
}

func wantMay(l api.Topo, x api.Inter) bool {
	if topo.Check(l) != 0 || len(x.Locks) > 24 || x.Next <= 0 || x.Next > 1099511627776 {
		return false
	}
	for i, a := range x.Locks {
		if a.No <= 0 || a.No >= x.Next || !wantTrain(a.Train) || !wantRoute(l, a.Route) {
			return false
		}
		for _, b := range x.Locks[:i] {
			if a.No <= b.No || a.Route == b.Route || a.Train != b.Train && wantClash(l, a.Route, b.Route) {
				return false
			}
		}
	}
	return true
}

func wantSet(l api.Topo, x api.Inter, route, train int) (api.Inter, int, api.Errno) {
	if !wantMay(l, x) || !wantTrain(train) {
		return api.Inter{}, 0, 1
	}
	if !wantRoute(l, route) {
		return api.Inter{}, 0, 4
	}
	there, clash := false, false
	for _, k := range x.Locks {
		there = there || k.Route == route
		clash = clash || k.Train != train && wantClash(l, k.Route, route)
	}
	switch {
	case there:
		return api.Inter{}, 0, 5
	case clash:
		return api.Inter{}, 0, 160
	case len(x.Locks) >= 24 || x.Next >= 1099511627776:
		return api.Inter{}, 0, 3
	}
	return state(x.Next+1, slices.Concat(x.Locks, locks(lk(route, train, x.Next)))...), x.Next, 0
}

func wantFree(l api.Topo, x api.Inter, no int) (api.Inter, api.Errno) {
	if !wantMay(l, x) {
		return api.Inter{}, 1
	}
	for i, k := range x.Locks {
		if k.No == no {
			return state(x.Next, slices.Concat(x.Locks[:i], x.Locks[i+1:])...), 0
		}
	}
	return api.Inter{}, 4
}

func wantOf(list []api.Lock, train int) []api.Lock {
	var own []api.Lock
	for _, k := range list {
		if k.Train == train {
			own = append(own, k)
		}
	}
	return own
}

func wantLocked(l api.Topo, list []api.Lock, train int) []api.Span {
	if topo.Check(l) != 0 {
		return nil
	}
	var edges []int
	for _, k := range wantOf(list, train) {
		edges = append(edges, wantEdges(l, k.Route)...)
	}
	slices.Sort(edges)
	return wholeEdges(l, slices.Compact(edges)...)
}

// Calls, their results, and what is handed in.

// answer is all that a call may return.
type answer struct {
	spans    []api.Span
	locks    []api.Lock
	next, no int
	ok       bool
	err      api.Errno
}

func answered(x api.Inter, no int, err api.Errno) answer {
	return answer{locks: x.Locks, next: x.Next, no: no, err: err}
}

func same(a, b answer) bool {
	return slices.Equal(a.spans, b.spans) && slices.Equal(a.locks, b.locks) &&
		a.next == b.next && a.no == b.no && a.ok == b.ok && a.err == b.err
}

// roomy returns a copy of list with room behind it, which holds something.
func roomy[T any](list []T, behind T) []T {
	return slices.Clip(append(slices.Clone(list), behind, behind))[:len(list)]
}

// full returns list with the room behind it.
func full[T any](list []T) []T { return list[:cap(list)] }

func roomyTopo(l api.Topo) api.Topo {
	m := api.Topo{Edges: roomy(l.Edges, 77)}
	m.Joints = roomy(l.Joints, joined(77, 78, 79, 80))
	m.Bals = roomy(l.Bals, api.Bal{ID: 77, Edge: 78, At: 79})
	m.Routes = roomy(l.Routes, api.Route{ID: 77, Gap: 78, Timer: 79})
	for i := range full(m.Routes) {
		full(m.Routes)[i].Path = roomy(full(m.Routes)[i].Path, back(77))
	}
	return m
}

// fullTopo returns a copy of l with the room behind its lists.
func fullTopo(l api.Topo) api.Topo {
	m := api.Topo{Edges: slices.Clone(full(l.Edges)), Joints: slices.Clone(full(l.Joints))}
	m.Bals, m.Routes = slices.Clone(full(l.Bals)), slices.Clone(full(l.Routes))
	for i, r := range m.Routes {
		m.Routes[i].Path = slices.Clone(full(r.Path))
	}
	return m
}

// spoil writes over list and the room behind it.
func spoil[T any](list []T, by T) {
	for i := range full(list) {
		full(list)[i] = by
	}
}

// expect makes a call with a layout and locks twice. It checks that the result is
// the wanted one both times, that the call changes nothing of what it is given, and
// that the result shares no memory with it.
func expect(t *testing.T, what string, l api.Topo, list []api.Lock, call func(l api.Topo, list []api.Lock) answer, want answer) {
	t.Helper()
	m, given := roomyTopo(l), roomy(list, lk(77, 78, 79))
	before, givenBefore := fullTopo(m), slices.Clone(full(given))
	first := call(m, given)
	if !same(first, want) {
		t.Fatalf("%s of %+v, %+v: %+v, want %+v", what, l, list, first, want)
	}
	spoil(first.spans, api.Span{Edge: -7, Lo: -7, Hi: -7})
	spoil(first.locks, lk(-7, -7, -7))
	if !reflect.DeepEqual(fullTopo(m), before) || !slices.Equal(full(given), givenBefore) {
		t.Fatalf("%s changes what it is given, or shares memory with it: %+v %+v, before %+v %+v", what, fullTopo(m), full(given), l, list)
	}
	second := call(m, given)
	spoil(given, lk(-8, -8, -8))
	if !same(second, want) {
		t.Fatalf("%s of %+v, %+v, once more: %+v, want %+v", what, l, list, second, want)
	}
}

func expectMay(t *testing.T, l api.Topo, x api.Inter, want bool) {
	t.Helper()
	if other := wantMay(l, x); other != want {
		t.Fatalf("the chapter says %v of May(%+v, %+v), want %v", other, l, x, want)
	}
	expect(t, "May", l, x.Locks, func(l api.Topo, list []api.Lock) answer {
		return answer{ok: May(l, state(x.Next, list...))}
	}, answer{ok: want})
}

func expectExtent(t *testing.T, l api.Topo, route int, want ...api.Span) {
	t.Helper()
	if other := wantExtent(l, route); !slices.Equal(other, want) {
		t.Fatalf("the chapter says %v of Extent(%+v, %d), want %v", other, l, route, want)
	}
	expect(t, "Extent", l, nil, func(l api.Topo, _ []api.Lock) answer {
		return answer{spans: Extent(l, route)}
	}, answer{spans: want})
}

// expectSet returns the state that Set returns.
func expectSet(t *testing.T, l api.Topo, x api.Inter, route, train int, want api.Inter, wantNo int, wantErr api.Errno) api.Inter {
	t.Helper()
	if y, no, err := wantSet(l, x, route, train); !same(answered(y, no, err), answered(want, wantNo, wantErr)) {
		t.Fatalf("the chapter says %+v %d %d of Set(%+v, %+v, %d, %d), want %+v %d %d", y, no, err, l, x, route, train, want, wantNo, wantErr)
	}
	expect(t, "Set", l, x.Locks, func(l api.Topo, list []api.Lock) answer {
		return answered(Set(l, state(x.Next, list...), route, train))
	}, answered(want, wantNo, wantErr))
	return want
}

// expectSetFails checks that Set has an error, and nothing beside it.
func expectSetFails(t *testing.T, l api.Topo, x api.Inter, route, train int, want api.Errno) {
	t.Helper()
	expectSet(t, l, x, route, train, api.Inter{}, 0, want)
}

// expectFree returns the state that Free returns.
func expectFree(t *testing.T, l api.Topo, x api.Inter, no int, want api.Inter, wantErr api.Errno) api.Inter {
	t.Helper()
	if y, err := wantFree(l, x, no); !same(answered(y, 0, err), answered(want, 0, wantErr)) {
		t.Fatalf("the chapter says %+v %d of Free(%+v, %+v, %d), want %+v %d", y, err, l, x, no, want, wantErr)
	}
	expect(t, "Free", l, x.Locks, func(l api.Topo, list []api.Lock) answer {
		y, err := Free(l, state(x.Next, list...), no)
		return answered(y, 0, err)
	}, answered(want, 0, wantErr))
	return want
}

// expectFreeFails checks that Free has an error, and nothing beside it.
func expectFreeFails(t *testing.T, l api.Topo, x api.Inter, no int, want api.Errno) {
	t.Helper()
	expectFree(t, l, x, no, api.Inter{}, want)
}

func expectLocked(t *testing.T, l api.Topo, list []api.Lock, train int, want ...api.Span) {
	t.Helper()
	if other := wantLocked(l, list, train); !slices.Equal(other, want) {
		t.Fatalf("the chapter says %v of Locked(%+v, %+v, %d), want %v", other, l, list, train, want)
	}
	expect(t, "Locked", l, list, func(l api.Topo, list []api.Lock) answer {
		return answer{spans: Locked(l, list, train)}
	}, answer{spans: want})
}

func expectOf(t *testing.T, list []api.Lock, train int, want ...api.Lock) {
	t.Helper()
	if other := wantOf(list, train); !slices.Equal(other, want) {
		t.Fatalf("the chapter says %v of Of(%+v, %d), want %v", other, list, train, want)
	}
	expect(t, "Of", api.Topo{}, list, func(_ api.Topo, list []api.Lock) answer {
		return answer{locks: Of(list, train)}
	}, answer{locks: want})
}

// Locks, states and layouts to begin with.

// lk and locks write locks, state the states with them.
func lk(route, train, no int) api.Lock { return api.Lock{Route: route, Train: train, No: no} }

func locks(list ...api.Lock) []api.Lock { return list }

func state(next int, list ...api.Lock) api.Inter { return api.Inter{Locks: list, Next: next} }

// on and back write steps, over and home paths of steps without and with Rev.
func on(edge int) api.Step { return api.Step{Edge: edge} }

func back(edge int) api.Step { return api.Step{Edge: edge, Rev: true} }

func over(edges ...int) []api.Step {
	var path []api.Step
	for _, n := range edges {
		path = append(path, on(n))
	}
	return path
}

func home(edges ...int) []api.Step {
	var path []api.Step
	for _, n := range edges {
		path = append(path, back(n))
	}
	return path
}

// joined writes a joint: which edge, and At which of its ends, twice.
func joined(a, atA, b, atB int) api.Joint {
	return api.Joint{A: api.End{Edge: a, At: atA}, B: api.End{Edge: b, At: atB}}
}

// laid returns edges of the lengths lens, one behind the other, with a balise group
// on each of them, and the routes 1, 2 and so on over paths.
func laid(lens []int, paths ...[]api.Step) api.Topo {
	l := api.Topo{Edges: lens}
	for i, n := range lens {
		l.Bals = append(l.Bals, api.Bal{ID: 50 + i, Edge: i, At: n / 2})
		if i > 0 {
			l.Joints = append(l.Joints, joined(i-1, 1, i, 0))
		}
	}
	for i, path := range paths {
		l.Routes = append(l.Routes, api.Route{ID: i + 1, Path: path, Timer: 10})
	}
	return l
}

// example returns the layout of the chapter's example.
func example() api.Topo { return laid([]int{100, 200, 300}, over(0, 1), over(1, 2)) }

// yard returns six edges. Its routes 1, 3 and 5 and its routes 2 and 6 only touch;
// 4 goes over what 1 goes over, the other way; 7 goes over all edges.
func yard() api.Topo {
	return laid([]int{3, 4, 5, 6, 7, 8}, over(0, 1), over(1, 2), over(2, 3), home(1, 0), over(4), home(5, 4), over(0, 1, 2, 3, 4, 5), home(3))
}

// sidings returns n edges that are joined to nothing, each with a route, the number
// of which is greater by one than that of its edge.
func sidings(n int) api.Topo {
	var l api.Topo
	for i := range n {
		l.Edges = append(l.Edges, 10+i)
		l.Bals = append(l.Bals, api.Bal{ID: i, Edge: i})
		l.Routes = append(l.Routes, api.Route{ID: i + 1, Path: over(i), Timer: 1})
	}
	return l
}

// parked returns the state with the routes 1 to n of sidings locked for trains from
// 100 on, a train for every two of them, and the next number next.
func parked(n, next int) api.Inter {
	x := state(next)
	for i := range n {
		x.Locks = append(x.Locks, lk(i+1, 100+i/2, i+1))
	}
	return x
}

// invalid returns layouts that are not valid. Each has the edges and routes of the
// example, or more.
func invalid() []api.Topo {
	spoil := []func(l *api.Topo){
		func(l *api.Topo) { l.Edges = append(l.Edges, slices.Repeat([]int{5}, 38)...) },
		func(l *api.Topo) { l.Edges = append(l.Edges, 0) },
		func(l *api.Topo) { l.Edges = append(l.Edges, -5) },
		func(l *api.Topo) { l.Edges = append(l.Edges, 1000001) },
		func(l *api.Topo) { l.Edges[0] = 0 },
		func(l *api.Topo) { l.Joints = slices.Repeat(l.Joints, 41) },
		func(l *api.Topo) { l.Joints = append(l.Joints, joined(0, 0, 0, 0)) },
		func(l *api.Topo) { l.Joints = append(l.Joints, joined(1, 1, 3, 0)) },
		func(l *api.Topo) { l.Joints = append(l.Joints, joined(1, 0, 0, 1)) },
		func(l *api.Topo) { l.Joints[1].B.At = 2 },
		func(l *api.Topo) { l.Bals = append(l.Bals, api.Bal{ID: 50}) },
		func(l *api.Topo) { l.Bals = append(l.Bals, api.Bal{ID: 10, At: 101}) },
		func(l *api.Topo) { l.Bals = l.Bals[1:] },
		func(l *api.Topo) { l.Routes = slices.Repeat(l.Routes, 16) },
		func(l *api.Topo) { l.Routes = append(l.Routes, l.Routes[1]) },
		func(l *api.Topo) { l.Routes = append(l.Routes, api.Route{ID: 3, Timer: 1}) },
		func(l *api.Topo) { l.Routes = append(l.Routes, api.Route{Path: over(0), Timer: 1}) },
		func(l *api.Topo) { l.Routes[0].Gap = 300 },
		func(l *api.Topo) { l.Routes[1].Gap = -1 },
		func(l *api.Topo) { l.Routes[0].Timer = 0 },
		func(l *api.Topo) { l.Routes[1].Timer = 1001 },
		func(l *api.Topo) { l.Routes[0].Path[1].Rev = true },
		func(l *api.Topo) { l.Routes[0].Path = nil },
	}
	var list []api.Topo
	for _, f := range spoil {
		l := example()
		f(&l)
		list = append(list, l)
	}
	return list
}

// outside returns numbers below least and above most. Cut to 32 bits, some of them
// would lie between.
func outside(least, most int) []int {
	return []int{
		math.MinInt, math.MinInt + 1, -1 << 62, -1<<42 + most, -1 << 40, -1 << 32, -most - 1, least - 2, least - 1,
		most + 1, most + 2, 2*most + 2, 1<<32 + most, 1<<42 + most, 1 << 62, math.MaxInt - 1, math.MaxInt,
	}
}

// The limits and errors of the chapter are those of api.

func TestLimits(t *testing.T) {
	have := []int{api.MaxLocks, int(api.OK), int(api.ErrArg), int(api.ErrFull), int(api.ErrNone), int(api.ErrThere), int(api.ErrLock)}
	if want := []int{24, 0, 1, 3, 4, 5, 160}; !slices.Equal(have, want) {
		t.Errorf("%v, want %v", have, want)
	}
}

// The chapter's example.

func TestExample(t *testing.T) {
	l := example()
	x := expectSet(t, l, New(), 1, 5, state(2, lk(1, 5, 1)), 1, api.OK)
	expectSetFails(t, l, x, 2, 6, api.ErrLock)
	x = expectSet(t, l, x, 2, 5, state(3, lk(1, 5, 1), lk(2, 5, 2)), 2, api.OK)
	x = expectFree(t, l, x, 1, state(3, lk(2, 5, 2)), api.OK)
	expectSetFails(t, l, x, 1, 6, api.ErrLock)
}

// P16.1: New

func TestNew(t *testing.T) {
	for range 3 {
		x := New()
		if len(x.Locks) != 0 || x.Next != 1 {
			t.Fatalf("%+v", x)
		}
		for _, l := range []api.Topo{{}, example(), yard(), sidings(30), {Edges: []int{1}}} {
			expectMay(t, l, x, true)
		}
		x.Locks, x.Next = append(x.Locks, lk(1, 2, 3)), 4
	}
}

// P16.1: May

func TestMayOfLayouts(t *testing.T) {
	states := []api.Inter{New(), state(2, lk(1, 5, 1)), state(9, lk(2, 5, 1), lk(1, 5, 8))}
	for _, x := range states {
		expectMay(t, example(), x, true)
		for _, l := range invalid() {
			expectMay(t, l, x, false)
		}
	}
	expectMay(t, api.Topo{}, New(), true)
	expectMay(t, api.Topo{}, state(2, lk(1, 5, 1)), false)
}

func TestMayOfNumbersOfLocks(t *testing.T) {
	l := sidings(30)
	for n := range 31 {
		expectMay(t, l, parked(n, 50), n <= 24)
		expectMay(t, l, parked(n, 1<<40), n <= 24)
		expectMay(t, l, parked(n, n+1), n <= 24)
	}
	x := parked(30, 50)
	for i := range x.Locks {
		x.Locks[i].Train = 5
	}
	for n := range 31 {
		expectMay(t, l, state(50, x.Locks[:n]...), n <= 24)
	}
	expectMay(t, l, state(math.MaxInt, make([]api.Lock, 1<<16)...), false)
}

func TestMayOfNext(t *testing.T) {
	l := yard()
	for _, n := range []int{1, 2, 3, 24, 25, 1 << 31, 1 << 32, 1<<40 - 1, 1 << 40} {
		expectMay(t, l, state(n), true)
		expectMay(t, l, state(n, lk(1, 5, 1)), n > 1)
		expectMay(t, l, state(n, lk(1, 5, 1), lk(3, 6, 2)), n > 2)
	}
	for _, n := range append(outside(1, 1<<40), 1<<40+1, 1<<41, 1<<50) {
		expectMay(t, l, state(n), false)
		expectMay(t, l, state(n, lk(1, 5, 1)), false)
		expectMay(t, l, state(n, lk(1, 5, min(n, 1<<40)-1)), false)
	}
}

func TestMayOfTheNumberOfALock(t *testing.T) {
	l := yard()
	for _, next := range []int{2, 3, 10, 1 << 32, 1<<40 - 1, 1 << 40} {
		for _, no := range []int{1, next / 2, next - 1} {
			expectMay(t, l, state(next, lk(1, 5, no)), true)
		}
		for _, no := range append(outside(1, next-1), next, next+1) {
			expectMay(t, l, state(next, lk(1, 5, no)), false)
			expectMay(t, l, state(next, lk(1, 5, 1), lk(5, 5, no)), false)
			expectMay(t, l, state(next, lk(1, 5, no), lk(5, 5, next-1)), false)
		}
	}
	expectMay(t, l, state(1<<40, lk(1, 5, 1), lk(3, 5, 1<<32), lk(5, 5, 1<<32+1), lk(8, 5, 1<<40-1)), true)
	expectMay(t, l, state(1<<40, lk(1, 5, 2), lk(3, 5, 1<<32+1)), true)
}

// All lists of three numbers from -1 to 5, with each next number from 0 to 6.
func TestMayOfTheNumbersOfThreeLocks(t *testing.T) {
	l, valid := yard(), 0
	for next := range 7 {
		for n := range 7 * 7 * 7 {
			a, b, c := n%7-1, n/7%7-1, n/49-1
			want := 0 < a && a < b && b < c && c < next
			expectMay(t, l, state(next, lk(1, 5, a), lk(3, 6, b), lk(5, 7, c)), want)
			if want {
				valid++
			}
		}
	}
	if valid != 1+4+10 {
		t.Errorf("%d", valid)
	}
}

func TestMayOfRoutes(t *testing.T) {
	l := yard()
	for _, route := range []int{1, 2, 3, 4, 5, 6, 7, 8} {
		expectMay(t, l, state(2, lk(route, 5, 1)), true)
	}
	for _, route := range append(outside(1, 8), 50, 51) {
		expectMay(t, l, state(2, lk(route, 5, 1)), false)
		expectMay(t, l, state(4, lk(route, 5, 1), lk(1, 5, 2), lk(3, 5, 3)), false)
		expectMay(t, l, state(4, lk(1, 5, 1), lk(route, 5, 2), lk(3, 5, 3)), false)
		expectMay(t, l, state(4, lk(1, 5, 1), lk(3, 5, 2), lk(route, 5, 3)), false)
	}
}

func TestMayOfTrains(t *testing.T) {
	l := yard()
	for _, train := range []int{0, 1, 5, 1 << 23, 1<<24 - 2, 1<<24 - 1} {
		expectMay(t, l, state(2, lk(1, train, 1)), true)
		expectMay(t, l, state(4, lk(1, 6, 1), lk(3, train, 2), lk(5, 6, 3)), true)
	}
	for _, train := range append(outside(0, 1<<24-1), 1<<24, 1<<25, 1<<31, 1<<32, 1<<32+5) {
		expectMay(t, l, state(2, lk(1, train, 1)), false)
		expectMay(t, l, state(4, lk(1, train, 1), lk(3, 6, 2), lk(5, 6, 3)), false)
		expectMay(t, l, state(4, lk(1, 6, 1), lk(3, train, 2), lk(5, 6, 3)), false)
		expectMay(t, l, state(4, lk(1, 6, 1), lk(3, 6, 2), lk(5, train, 3)), false)
		expectMay(t, l, state(3, lk(1, train, 1), lk(3, train, 2)), false)
	}
}

func TestMayOfARouteTwice(t *testing.T) {
	l := yard()
	for route := 1; route <= 8; route++ {
		for _, train := range []int{5, 6} {
			expectMay(t, l, state(3, lk(route, 5, 1), lk(route, train, 2)), false)
		}
	}
	for _, train := range []int{5, 6} {
		expectMay(t, l, state(9, lk(1, 5, 1), lk(1, train, 2), lk(3, 5, 3), lk(5, 5, 4)), false)
		expectMay(t, l, state(9, lk(1, 5, 1), lk(3, 5, 2), lk(1, train, 3), lk(5, 5, 4)), false)
		expectMay(t, l, state(9, lk(1, 5, 1), lk(3, 5, 2), lk(5, 5, 3), lk(1, train, 4)), false)
		expectMay(t, l, state(9, lk(5, 5, 1), lk(3, 5, 2), lk(1, 5, 3), lk(1, train, 4)), false)
	}
	expectMay(t, l, state(9, lk(1, 5, 1), lk(3, 5, 2), lk(5, 5, 3), lk(8, 5, 4)), true)
}

// Whether two routes of the yard overlap, written out.
func overlaps() map[[2]int]bool {
	return map[[2]int]bool{
		{1, 2}: true, {1, 4}: true, {1, 7}: true,
		{2, 3}: true, {2, 4}: true, {2, 7}: true,
		{3, 7}: true, {3, 8}: true, {4, 7}: true,
		{5, 6}: true, {5, 7}: true, {6, 7}: true, {7, 8}: true,
	}
}

// Routes that overlap may be locked for one train, but not for two; those that only
// touch may be locked for any.
func TestMayOfExtents(t *testing.T) {
	l, apart := yard(), 0
	for a := 1; a <= 8; a++ {
		for b := 1; b <= 8; b++ {
			if a == b {
				continue
			}
			clash := overlaps()[[2]int{min(a, b), max(a, b)}]
			expectMay(t, l, state(3, lk(a, 5, 1), lk(b, 5, 2)), true)
			expectMay(t, l, state(3, lk(a, 5, 1), lk(b, 6, 2)), !clash)
			expectMay(t, l, state(3, lk(a, 0, 1), lk(b, 1<<24-1, 2)), !clash)
			expectMay(t, l, state(1<<40, lk(a, 6, 4), lk(b, 5, 1<<40-1)), !clash)
			if !clash {
				apart++
			}
		}
	}
	if apart != 56-26 {
		t.Errorf("%d", apart)
	}
}

// Every two locks of a list are held against each other.
func TestMayOfExtentsInLongerLists(t *testing.T) {
	l := yard()
	for _, c := range []struct {
		routes, trains [4]int
		want           bool
	}{
		{[4]int{1, 2, 3, 8}, [4]int{5, 5, 5, 5}, true},
		{[4]int{1, 2, 4, 7}, [4]int{5, 5, 5, 5}, true},
		{[4]int{1, 4, 3, 5}, [4]int{5, 5, 6, 7}, true},
		{[4]int{1, 3, 4, 8}, [4]int{5, 6, 5, 6}, true},
		{[4]int{3, 1, 5, 2}, [4]int{6, 5, 6, 5}, false},
		{[4]int{1, 3, 5, 4}, [4]int{5, 5, 5, 6}, false},
		{[4]int{1, 3, 5, 8}, [4]int{5, 5, 5, 6}, false},
		{[4]int{1, 3, 5, 6}, [4]int{5, 5, 5, 6}, false},
		{[4]int{6, 1, 3, 5}, [4]int{6, 5, 5, 5}, false},
		{[4]int{1, 5, 6, 3}, [4]int{5, 6, 7, 5}, false},
		{[4]int{1, 4, 2, 5}, [4]int{5, 5, 6, 6}, false},
		{[4]int{1, 3, 5, 7}, [4]int{5, 5, 5, 6}, false},
	} {
		x := state(9)
		for i, route := range c.routes {
			x.Locks = append(x.Locks, lk(route, c.trains[i], 2*i+1))
		}
		expectMay(t, l, x, c.want)
	}
}

// Paths of eight steps that have only one edge in common, at either end of them, or
// only touch.
func TestMayOfLongRoutes(t *testing.T) {
	l := laid(slices.Repeat([]int{9}, 16), over(0, 1, 2, 3, 4, 5, 6, 7), over(7, 8, 9, 10, 11, 12, 13, 14), home(14, 13, 12, 11, 10, 9, 8, 7), over(8, 9, 10, 11, 12, 13, 14, 15))
	for _, c := range []struct {
		a, b int
		want bool
	}{{1, 2, false}, {1, 3, false}, {1, 4, true}, {2, 4, false}, {3, 4, false}} {
		expectMay(t, l, state(3, lk(c.a, 5, 1), lk(c.b, 6, 2)), c.want)
		expectMay(t, l, state(3, lk(c.b, 5, 1), lk(c.a, 6, 2)), c.want)
		expectMay(t, l, state(3, lk(c.a, 5, 1), lk(c.b, 5, 2)), true)
	}
}

// P16.1: Extent

func TestExtent(t *testing.T) {
	l := yard()
	expectExtent(t, l, 1, wholeEdges(l, 0, 1)...)
	expectExtent(t, l, 2, wholeEdges(l, 1, 2)...)
	expectExtent(t, l, 4, wholeEdges(l, 0, 1)...)
	expectExtent(t, l, 5, api.Span{Edge: 4, Lo: 0, Hi: 7})
	expectExtent(t, l, 6, wholeEdges(l, 4, 5)...)
	expectExtent(t, l, 7, wholeEdges(l, 0, 1, 2, 3, 4, 5)...)
	expectExtent(t, l, 8, api.Span{Edge: 3, Lo: 0, Hi: 6})
	for _, route := range append(outside(1, 8), 50, 51) {
		expectExtent(t, l, route)
		expectExtent(t, api.Topo{}, route)
	}
	expectExtent(t, example(), 1, api.Span{Edge: 0, Lo: 0, Hi: 100}, api.Span{Edge: 1, Lo: 0, Hi: 200})
	expectExtent(t, example(), 2, api.Span{Edge: 1, Lo: 0, Hi: 200}, api.Span{Edge: 2, Lo: 0, Hi: 300})
}

// The Gap of a route does not make its extent shorter.
func TestExtentIsThatOfTheWholePath(t *testing.T) {
	for _, gap := range []int{0, 1, 99, 299, 300, -1} {
		l := example()
		l.Routes[0].Gap, l.Routes[0].Timer = gap, gap
		expectExtent(t, l, 1, wholeEdges(l, 0, 1)...)
	}
}

// The steps of a path come in any order of edges and in both directions, those of
// the extent do not.
func TestExtentInTheOrderOfEdges(t *testing.T) {
	l := laid([]int{4, 5, 6, 1000000, 1})
	l.Joints = []api.Joint{joined(3, 1, 0, 1), joined(0, 0, 4, 0), joined(4, 1, 1, 1), joined(1, 0, 2, 0)}
	path := []api.Step{on(3), back(0), on(4), back(1), on(2)}
	l.Routes = []api.Route{{ID: 2, Path: path, Timer: 1}, {ID: 1, Path: topo.Back(path), Timer: 1}, {ID: 7, Path: path[1:4], Timer: 1}}
	if topo.Check(l) != api.OK {
		t.Fatalf("%+v", l)
	}
	for _, route := range []int{1, 2} {
		expectExtent(t, l, route, api.Span{Edge: 0, Hi: 4}, api.Span{Edge: 1, Hi: 5}, api.Span{Edge: 2, Hi: 6}, api.Span{Edge: 3, Hi: 1000000}, api.Span{Edge: 4, Hi: 1})
	}
	expectExtent(t, l, 7, wholeEdges(l, 0, 1, 4)...)
}

// numbered returns the yard with other numbers of its routes, in no order.
func numbered() api.Topo {
	l := yard()
	for i, id := range []int{9, math.MaxInt, 1, 1<<32 + 9, 7, 1 << 32, 1<<32 + 1, 8} {
		l.Routes[i].ID = id
	}
	return l
}

func TestNumbersOfRoutes(t *testing.T) {
	l := numbered()
	expectExtent(t, l, 9, wholeEdges(l, 0, 1)...)
	expectExtent(t, l, math.MaxInt, wholeEdges(l, 1, 2)...)
	expectExtent(t, l, 1, wholeEdges(l, 2, 3)...)
	expectExtent(t, l, 1<<32+9, wholeEdges(l, 0, 1)...)
	expectExtent(t, l, 1<<32, wholeEdges(l, 4, 5)...)
	expectExtent(t, l, 1<<32+1, wholeEdges(l, 0, 1, 2, 3, 4, 5)...)
	for _, route := range []int{0, 2, 3, 4, 5, 6, -1, math.MaxInt - 1, math.MinInt, 1<<32 + 2, 1 << 33} {
		expectExtent(t, l, route)
		expectSetFails(t, l, New(), route, 5, api.ErrNone)
		expectMay(t, l, state(2, lk(route, 5, 1)), false)
	}
	x := expectSet(t, l, New(), 9, 5, state(2, lk(9, 5, 1)), 1, api.OK)
	expectSetFails(t, l, x, 1<<32+9, 6, api.ErrLock)
	x = expectSet(t, l, x, 1<<32+9, 5, state(3, lk(9, 5, 1), lk(1<<32+9, 5, 2)), 2, api.OK)
	x = expectSet(t, l, x, math.MaxInt, 5, state(4, lk(9, 5, 1), lk(1<<32+9, 5, 2), lk(math.MaxInt, 5, 3)), 3, api.OK)
	expectSetFails(t, l, x, math.MaxInt, 5, api.ErrThere)
	expectLocked(t, l, x.Locks, 5, wholeEdges(l, 0, 1, 2)...)
}

// A path that topo.Length has an error for has no extent.
func TestExtentOfWrongPaths(t *testing.T) {
	paths := [][]api.Step{
		nil, {}, over(3), over(-1), over(0, 3), over(0, -1), over(3, 0), over(math.MaxInt), over(math.MinInt),
		over(0, 2), over(1, 0), {on(0), back(1)}, {back(0), on(1)}, home(0, 1), over(0, 0), {on(0), back(0)},
		slices.Repeat(over(0), 41), slices.Repeat(over(0), 1<<16),
	}
	for _, path := range paths {
		l := laid([]int{100, 200, 300}, path, over(1, 2))
		expectExtent(t, l, 1)
		expectExtent(t, l, 2, wholeEdges(l, 1, 2)...)
	}
}

// So have all routes, if the length of any edge of the layout may not be.
func TestExtentBesideWrongLengths(t *testing.T) {
	for _, n := range append(outside(1, 1000000), 0, 1000001) {
		for edge := range 3 {
			l := example()
			l.Edges[edge] = n
			expectExtent(t, l, 1)
			expectExtent(t, l, 2)
		}
	}
	for _, n := range []int{1, 2, 999999, 1000000} {
		l := laid([]int{n, n, n}, over(0, 1), over(1, 2))
		expectExtent(t, l, 1, api.Span{Edge: 0, Hi: n}, api.Span{Edge: 1, Hi: n})
	}
}

// What else is wrong with a layout has no effect on an extent.
func TestExtentOnLayoutsThatAreNotValid(t *testing.T) {
	ring := laid([]int{3, 4, 5}, over(0, 1, 2, 0, 1), slices.Repeat(over(0, 1, 2, 0), 10), over(2))
	ring.Joints = append(ring.Joints, joined(2, 1, 0, 0), joined(0, 1, 0, 0), joined(0, 1, 0, 1), joined(7, 0, 0, 0))
	ring.Routes[1].Path = slices.Repeat(over(0), 40)
	ring.Routes = append(ring.Routes, api.Route{ID: 3, Path: over(1)}, api.Route{Path: over(1, 2)}, api.Route{ID: -4, Path: []api.Step{on(0), back(0)}}, api.Route{ID: math.MinInt, Path: home(1, 0)})
	expectExtent(t, ring, 1, wholeEdges(ring, 0, 1, 2)...)
	expectExtent(t, ring, 2, wholeEdges(ring, 0)...)
	expectExtent(t, ring, 3, wholeEdges(ring, 2)...)
	expectExtent(t, ring, 0, wholeEdges(ring, 1, 2)...)
	expectExtent(t, ring, -4, wholeEdges(ring, 0)...)
	expectExtent(t, ring, math.MinInt, wholeEdges(ring, 0, 1)...)
	expectExtent(t, ring, 4)
	long := laid(slices.Repeat([]int{2}, 50), over(40, 41, 42, 43, 44, 45, 46, 47, 48, 49))
	expectExtent(t, long, 1, wholeEdges(long, 40, 41, 42, 43, 44, 45, 46, 47, 48, 49)...)
	for _, l := range invalid() {
		for route := -1; route < 6; route++ {
			expectExtent(t, l, route, wantExtent(l, route)...)
		}
	}
}

// P16.2: Set

func TestSet(t *testing.T) {
	l := yard()
	for route := 1; route <= 8; route++ {
		for _, train := range []int{0, 1, 5, 1<<24 - 1} {
			expectSet(t, l, New(), route, train, state(2, lk(route, train, 1)), 1, api.OK)
			expectSet(t, l, state(1000), route, train, state(1001, lk(route, train, 1000)), 1000, api.OK)
		}
	}
	x := state(30, lk(3, 5, 7), lk(1, 6, 29))
	expectSetFails(t, l, x, 2, 5, api.ErrLock)
	y := expectSet(t, l, x, 8, 5, state(31, lk(3, 5, 7), lk(1, 6, 29), lk(8, 5, 30)), 30, api.OK)
	expectSet(t, l, y, 4, 6, state(32, lk(3, 5, 7), lk(1, 6, 29), lk(8, 5, 30), lk(4, 6, 31)), 31, api.OK)
	expectSet(t, l, y, 6, 7, state(32, lk(3, 5, 7), lk(1, 6, 29), lk(8, 5, 30), lk(6, 7, 31)), 31, api.OK)
}

func TestSetOfStatesThatAreNotValid(t *testing.T) {
	for _, l := range invalid() {
		for _, x := range []api.Inter{New(), state(2, lk(1, 5, 1))} {
			expectSetFails(t, l, x, 1, 5, api.ErrArg)
			expectSetFails(t, l, x, 2, 5, api.ErrArg)
			expectSetFails(t, l, x, 9, 6, api.ErrArg)
		}
	}
	for _, x := range wrong() {
		for _, route := range []int{5, 1, 2, 9} {
			expectSetFails(t, yard(), x, route, 5, api.ErrArg)
			expectSetFails(t, yard(), x, route, 6, api.ErrArg)
		}
	}
}

// wrong returns states of the yard that are not valid.
func wrong() []api.Inter {
	return []api.Inter{
		{}, {Locks: locks(lk(1, 5, 1))}, state(-1), state(1<<40 + 1), state(1<<40+1, lk(1, 5, 1)), state(math.MinInt), state(math.MaxInt),
		state(1, lk(1, 5, 1)), state(2, lk(1, 5, 2)), state(2, lk(1, 5, 3)), state(2, lk(1, 5, 0)), state(2, lk(1, 5, -1)),
		state(9, lk(1, 5, 2), lk(3, 5, 2)), state(9, lk(1, 5, 3), lk(3, 5, 2)), state(9, lk(1, 5, 1), lk(3, 5, 4), lk(8, 5, 3)),
		state(2, lk(9, 5, 1)), state(2, lk(0, 5, 1)), state(9, lk(1, 5, 1), lk(-1, 5, 2)),
		state(2, lk(1, -1, 1)), state(2, lk(1, 1<<24, 1)), state(9, lk(1, 5, 1), lk(3, 1<<24, 2)),
		state(9, lk(1, 5, 1), lk(1, 5, 2)), state(9, lk(1, 5, 1), lk(1, 6, 2)), state(9, lk(1, 5, 1), lk(3, 5, 2), lk(1, 5, 3)),
		state(9, lk(1, 5, 1), lk(2, 6, 2)), state(9, lk(1, 5, 1), lk(4, 6, 2)), state(9, lk(8, 5, 1), lk(1, 5, 2), lk(3, 6, 3)),
	}
}

func TestSetForTrains(t *testing.T) {
	l := yard()
	for _, train := range append(outside(0, 1<<24-1), 1<<24, 1<<25, 1<<31, 1<<32, 1<<32+5) {
		expectSetFails(t, l, New(), 1, train, api.ErrArg)
		expectSetFails(t, l, state(9, lk(1, 5, 1)), 5, train, api.ErrArg)
	}
}

func TestSetOfRoutesThatTheLayoutDoesNotHave(t *testing.T) {
	for _, route := range append(outside(1, 8), 50, 51) {
		expectSetFails(t, yard(), New(), route, 5, api.ErrNone)
		expectSetFails(t, yard(), state(9, lk(1, 5, 1)), route, 5, api.ErrNone)
		expectSetFails(t, api.Topo{}, New(), route, 5, api.ErrNone)
	}
}

// A route that is locked already is ErrThere for any train.
func TestSetOfRoutesThatAreLocked(t *testing.T) {
	x := state(9, lk(1, 5, 1), lk(3, 6, 2), lk(5, 7, 8))
	for _, k := range x.Locks {
		for _, train := range []int{0, 5, 6, 7, 8, 1<<24 - 1} {
			expectSetFails(t, yard(), x, k.Route, train, api.ErrThere)
		}
	}
}

// A lock of every other train is held against the new one, those of the train
// itself are not.
func TestSetOfRoutesThatOverlap(t *testing.T) {
	l := yard()
	for a := 1; a <= 8; a++ {
		for b := 1; b <= 8; b++ {
			if a == b {
				continue
			}
			x, y := state(2, lk(a, 5, 1)), state(3, lk(a, 5, 1), lk(b, 5, 2))
			expectSet(t, l, x, b, 5, y, 2, api.OK)
			if overlaps()[[2]int{min(a, b), max(a, b)}] {
				expectSetFails(t, l, x, b, 6, api.ErrLock)
				continue
			}
			expectSet(t, l, x, b, 6, state(3, lk(a, 5, 1), lk(b, 6, 2)), 2, api.OK)
		}
	}
	x := state(9, lk(1, 5, 1), lk(8, 6, 2), lk(5, 7, 8))
	for _, c := range []struct{ route, train int }{{2, 6}, {2, 7}, {3, 5}, {3, 7}, {4, 6}, {4, 8}, {6, 5}, {6, 6}, {7, 5}, {7, 6}, {7, 7}, {7, 8}} {
		expectSetFails(t, l, x, c.route, c.train, api.ErrLock)
	}
	for _, c := range []struct{ route, train int }{{2, 5}, {3, 6}, {4, 5}, {6, 7}} {
		expectSet(t, l, x, c.route, c.train, state(10, lk(1, 5, 1), lk(8, 6, 2), lk(5, 7, 8), lk(c.route, c.train, 9)), 9, api.OK)
	}
}

func TestSetUpToTheGreatestNumberOfLocks(t *testing.T) {
	l, x := sidings(30), New()
	for i := range 24 {
		list := append(slices.Clone(x.Locks), lk(i+1, 100+i, i+1))
		x = expectSet(t, l, x, i+1, 100+i, state(i+2, list...), i+1, api.OK)
	}
	for _, train := range []int{0, 100, 5} {
		expectSetFails(t, l, x, 25, train, api.ErrFull)
		expectSetFails(t, l, x, 30, train, api.ErrFull)
	}
	y := expectFree(t, l, x, 10, state(25, slices.Delete(slices.Clone(x.Locks), 9, 10)...), api.OK)
	expectSet(t, l, y, 25, 5, state(26, append(slices.Clone(y.Locks), lk(25, 5, 25))...), 25, api.OK)
	for n := range 24 {
		x := parked(n, 1000)
		expectSet(t, l, x, 30, 5, state(1001, append(slices.Clone(x.Locks), lk(30, 5, 1000))...), 1000, api.OK)
	}
	expectSetFails(t, l, parked(24, 1000), 30, 5, api.ErrFull)
	expectSetFails(t, l, parked(25, 1000), 30, 5, api.ErrArg)
}

func TestSetUpToTheGreatestNumber(t *testing.T) {
	l := yard()
	for _, n := range []int{1 << 31, 1<<32 - 1, 1 << 32, 1<<40 - 2, 1<<40 - 1} {
		expectSet(t, l, state(n), 1, 5, state(n+1, lk(1, 5, n)), n, api.OK)
	}
	x := state(1<<40-1, lk(3, 5, 1<<40-2))
	x = expectSet(t, l, x, 1, 6, state(1<<40, lk(3, 5, 1<<40-2), lk(1, 6, 1<<40-1)), 1<<40-1, api.OK)
	expectMay(t, l, x, true)
	expectSetFails(t, l, x, 5, 6, api.ErrFull)
	expectSetFails(t, l, state(1<<40), 5, 6, api.ErrFull)
	x = expectFree(t, l, x, 1<<40-1, state(1<<40, lk(3, 5, 1<<40-2)), api.OK)
	expectSetFails(t, l, x, 1, 6, api.ErrFull)
	x = expectFree(t, l, x, 1<<40-2, state(1<<40), api.OK)
	expectSetFails(t, l, x, 1, 6, api.ErrFull)
}

// Where several errors apply, the one comes that the chapter names first. Here the
// state is full in both ways, or not valid, and what else is wrong becomes less from
// line to line.
func TestSetWithSeveralErrors(t *testing.T) {
	l := sidings(28)
	l.Routes = append(l.Routes, api.Route{ID: 29, Path: over(0), Timer: 1}, api.Route{ID: 30, Path: home(0), Timer: 1})
	x := parked(24, 1<<40)
	bad := state(1<<40, slices.Clone(x.Locks)...)
	bad.Locks[23].No = 23
	for _, c := range []struct {
		x            api.Inter
		route, train int
		want         api.Errno
	}{
		{bad, 99, -1, api.ErrArg}, {bad, 99, 100, api.ErrArg}, {bad, 1, 100, api.ErrArg}, {bad, 1, 101, api.ErrArg}, {bad, 29, 101, api.ErrArg}, {bad, 25, 101, api.ErrArg},
		{x, 99, -1, api.ErrArg}, {x, 1, -1, api.ErrArg}, {x, 29, 1 << 24, api.ErrArg}, {x, 25, 1 << 24, api.ErrArg},
		{x, 99, 100, api.ErrNone}, {x, 99, 5, api.ErrNone},
		{x, 1, 101, api.ErrThere}, {x, 1, 100, api.ErrThere}, {x, 24, 5, api.ErrThere},
		{x, 29, 101, api.ErrLock}, {x, 30, 101, api.ErrLock},
		{x, 29, 100, api.ErrFull}, {x, 25, 101, api.ErrFull},
	} {
		expectSetFails(t, l, c.x, c.route, c.train, c.want)
	}
}

// All calls with states, routes and trains of every kind.
func TestSetWithAllSetsOfErrors(t *testing.T) {
	l := sidings(28)
	l.Routes = append(l.Routes, api.Route{ID: 29, Path: over(0), Timer: 1}, api.Route{ID: 30, Path: home(23), Timer: 1})
	off := sidings(28)
	off.Routes = append(off.Routes, l.Routes[28:]...)
	off.Routes[27].Timer = 0
	seen := map[api.Errno]int{}
	for _, m := range []api.Topo{l, off, {}} {
		for _, n := range []int{0, 1, 2, 23, 24, 25} {
			for _, next := range []int{0, 1, n, n + 1, n + 2, 1<<40 - 1, 1 << 40, 1<<40 + 1} {
				for _, route := range []int{-1, 0, 1, 2, 24, 25, 28, 29, 30, 31} {
					for _, train := range []int{-1, 0, 100, 101, 111, 1<<24 - 1, 1 << 24} {
						x := parked(n, next)
						want, no, err := wantSet(m, x, route, train)
						expectSet(t, m, x, route, train, want, no, err)
						seen[err]++
					}
				}
			}
		}
	}
	for _, err := range []api.Errno{api.OK, api.ErrArg, api.ErrNone, api.ErrThere, api.ErrLock, api.ErrFull} {
		if seen[err] < 50 {
			t.Errorf("error %d only %d times", err, seen[err])
		}
	}
}

// P16.2: Free

// The numbers of these locks are neither those of their routes or trains nor their
// places in the list.
func TestFree(t *testing.T) {
	l := yard()
	a, b, c, d := lk(3, 5, 6), lk(1, 6, 7), lk(5, 9, 11), lk(8, 5, 12)
	x := state(20, a, b, c, d)
	expectFree(t, l, x, 6, state(20, b, c, d), api.OK)
	expectFree(t, l, x, 7, state(20, a, c, d), api.OK)
	expectFree(t, l, x, 11, state(20, a, b, d), api.OK)
	expectFree(t, l, x, 12, state(20, a, b, c), api.OK)
	for _, no := range []int{0, 1, 2, 3, 4, 5, 8, 9, 10, 13, 19, 20, 21, -6, 1<<32 + 6, math.MinInt, math.MaxInt} {
		expectFreeFails(t, l, x, no, api.ErrNone)
	}
	x = expectFree(t, l, x, 7, state(20, a, c, d), api.OK)
	expectFreeFails(t, l, x, 7, api.ErrNone)
	x = expectFree(t, l, x, 12, state(20, a, c), api.OK)
	x = expectFree(t, l, x, 6, state(20, c), api.OK)
	x = expectFree(t, l, x, 11, state(20), api.OK)
	expectFreeFails(t, l, x, 11, api.ErrNone)
}

func TestFreeOfTheOnlyLock(t *testing.T) {
	l := yard()
	for _, c := range []struct{ next, no int }{{2, 1}, {9, 1}, {9, 8}, {1 << 40, 1}, {1 << 40, 1<<40 - 1}, {1<<32 + 5, 1 << 32}} {
		x := state(c.next, lk(1, 5, c.no))
		expectFree(t, l, x, c.no, state(c.next), api.OK)
		for _, no := range []int{c.no - 1, c.no + 1, c.next, 5, 1<<32 + c.no} {
			if no != c.no {
				expectFreeFails(t, l, x, no, api.ErrNone)
			}
		}
	}
}

func TestFreeWithoutLocks(t *testing.T) {
	for _, l := range []api.Topo{{}, yard(), sidings(30)} {
		for _, no := range []int{0, 1, 2, -1, math.MinInt, math.MaxInt} {
			expectFreeFails(t, l, New(), no, api.ErrNone)
			expectFreeFails(t, l, state(1<<40), no, api.ErrNone)
		}
	}
}

func TestFreeOfTheGreatestNumberOfLocks(t *testing.T) {
	l, x := sidings(30), parked(24, 25)
	for i := range 24 {
		expectFree(t, l, x, i+1, state(25, slices.Delete(slices.Clone(x.Locks), i, i+1)...), api.OK)
	}
	expectFreeFails(t, l, x, 25, api.ErrNone)
	expectFreeFails(t, l, parked(25, 26), 1, api.ErrArg)
	expectFreeFails(t, l, parked(25, 26), 26, api.ErrArg)
}

func TestFreeOfStatesThatAreNotValid(t *testing.T) {
	for _, l := range invalid() {
		for _, no := range []int{0, 1, 2, 8} {
			expectFreeFails(t, l, New(), no, api.ErrArg)
			expectFreeFails(t, l, state(9, lk(1, 5, 1), lk(2, 5, 8)), no, api.ErrArg)
		}
	}
	for _, x := range wrong() {
		for no := -1; no < 11; no++ {
			expectFreeFails(t, yard(), x, no, api.ErrArg)
		}
	}
}

// P16.3: Locked and Of

func TestLockedAndOf(t *testing.T) {
	l := yard()
	a, b, c, d := lk(3, 5, 6), lk(1, 6, 7), lk(5, 7, 11), lk(8, 5, 12)
	list := locks(a, b, c, d)
	expectOf(t, list, 5, a, d)
	expectOf(t, list, 6, b)
	expectOf(t, list, 7, c)
	expectLocked(t, l, list, 5, wholeEdges(l, 2, 3)...)
	expectLocked(t, l, list, 6, wholeEdges(l, 0, 1)...)
	expectLocked(t, l, list, 7, wholeEdges(l, 4)...)
	for _, train := range []int{0, 1, 3, 8, 11, 12, -5, 1<<32 + 5, 1<<24 - 1, 1 << 24, math.MinInt, math.MaxInt} {
		expectOf(t, list, train)
		expectLocked(t, l, list, train)
	}
	for _, train := range []int{0, 5, -1, math.MaxInt} {
		expectOf(t, nil, train)
		expectOf(t, locks(), train)
		expectLocked(t, l, nil, train)
		expectLocked(t, api.Topo{}, list, train)
	}
}

// Locks are told in the order of the list, whatever their numbers and routes are.
func TestOfInTheOrderOfTheList(t *testing.T) {
	list := locks(lk(9, 5, 3), lk(1, 6, 3), lk(2, 5, 1), lk(9, 5, 3), lk(-1, 5, 1<<40), lk(2, 6, 1), lk(2, 5, -1))
	expectOf(t, list, 5, lk(9, 5, 3), lk(2, 5, 1), lk(9, 5, 3), lk(-1, 5, 1<<40), lk(2, 5, -1))
	expectOf(t, list, 6, lk(1, 6, 3), lk(2, 6, 1))
	expectOf(t, list[:1], 5, lk(9, 5, 3))
	expectOf(t, list[1:2], 5)
	expectOf(t, list[:1], 6)
	var many, odd []api.Lock
	for i := range 1000 {
		many = append(many, lk(i, i%2, -i))
		if i%2 == 1 {
			odd = append(odd, lk(i, 1, -i))
		}
	}
	expectOf(t, many, 1, odd...)
	expectOf(t, odd, 1, odd...)
	expectOf(t, odd, 0)
}

// Spans are sorted by their edges, whatever the order of the locks is.
func TestLockedInTheOrderOfEdges(t *testing.T) {
	l := yard()
	for _, list := range [][]api.Lock{
		locks(lk(5, 5, 1), lk(1, 5, 2), lk(8, 5, 3)),
		locks(lk(8, 5, 1), lk(5, 5, 2), lk(1, 5, 3)),
		locks(lk(1, 5, 3), lk(8, 5, 2), lk(5, 5, 1)),
	} {
		expectLocked(t, l, list, 5, wholeEdges(l, 0, 1, 3, 4)...)
	}
}

// What routes that overlap have in common counts once.
func TestLockedOfRoutesThatOverlap(t *testing.T) {
	l := yard()
	expectLocked(t, l, locks(lk(1, 5, 1), lk(2, 5, 2)), 5, wholeEdges(l, 0, 1, 2)...)
	expectLocked(t, l, locks(lk(2, 5, 1), lk(3, 5, 2), lk(8, 5, 3)), 5, wholeEdges(l, 1, 2, 3)...)
	expectLocked(t, l, locks(lk(1, 5, 1), lk(4, 5, 2)), 5, wholeEdges(l, 0, 1)...)
	expectLocked(t, l, locks(lk(7, 5, 1), lk(3, 5, 2), lk(6, 5, 3)), 5, wholeEdges(l, 0, 1, 2, 3, 4, 5)...)
	// of two trains, as no valid state has them
	list := locks(lk(1, 5, 1), lk(2, 6, 2), lk(4, 6, 3))
	expectLocked(t, l, list, 5, wholeEdges(l, 0, 1)...)
	expectLocked(t, l, list, 6, wholeEdges(l, 0, 1, 2)...)
}

func TestLockedAndOfListsThatNoStateHas(t *testing.T) {
	l := yard()
	// a lock twice, and a route twice
	list := locks(lk(1, 5, 1), lk(1, 5, 1), lk(1, 6, 1), lk(8, 6, 1), lk(8, 6, 9))
	expectOf(t, list, 5, lk(1, 5, 1), lk(1, 5, 1))
	expectOf(t, list, 6, lk(1, 6, 1), lk(8, 6, 1), lk(8, 6, 9))
	expectLocked(t, l, list, 5, wholeEdges(l, 0, 1)...)
	expectLocked(t, l, list, 6, wholeEdges(l, 0, 1, 3)...)
	// routes that the layout does not have
	for _, route := range append(outside(1, 8), 50) {
		expectOf(t, locks(lk(route, 5, 1)), 5, lk(route, 5, 1))
		expectLocked(t, l, locks(lk(route, 5, 1)), 5)
		expectLocked(t, l, locks(lk(route, 5, 1), lk(5, 5, 2), lk(1, 6, 3)), 5, wholeEdges(l, 4)...)
		expectLocked(t, l, locks(lk(1, 6, 3), lk(5, 5, 2), lk(route, 5, 1)), 5, wholeEdges(l, 4)...)
	}
	// trains and numbers out of range
	for _, n := range append(outside(0, 1<<24-1), 1<<24) {
		expectOf(t, locks(lk(1, 5, 1), lk(3, n, n), lk(5, 5, n)), n, lk(3, n, n))
		expectOf(t, locks(lk(1, 5, 1), lk(3, n, n), lk(5, 5, n)), 5, lk(1, 5, 1), lk(5, 5, n))
		expectLocked(t, l, locks(lk(1, 5, 1), lk(3, n, n), lk(5, 5, n)), n, wholeEdges(l, 2, 3)...)
		expectLocked(t, l, locks(lk(1, 5, 1), lk(3, n, n), lk(5, 5, n)), 5, wholeEdges(l, 0, 1, 4)...)
	}
	// more locks than a state has
	many := slices.Concat(slices.Repeat(locks(lk(2, 5, 1), lk(6, 6, 2)), 1000), locks(lk(8, 5, 1)))
	expectOf(t, many, 6, slices.Repeat(locks(lk(6, 6, 2)), 1000)...)
	expectLocked(t, l, many, 5, wholeEdges(l, 1, 2, 3)...)
	expectLocked(t, l, many, 6, wholeEdges(l, 4, 5)...)
}

// Extent returns what Locked does not, where the layout is not valid; Of does not
// ask for a layout.
func TestLockedOnLayoutsThatAreNotValid(t *testing.T) {
	list, extents := locks(lk(1, 5, 1), lk(2, 5, 2)), 0
	expectLocked(t, example(), list, 5, wholeEdges(example(), 0, 1, 2)...)
	for _, l := range invalid() {
		expectLocked(t, l, list, 5)
		expectLocked(t, l, list, 6)
		expectLocked(t, l, nil, 5)
		if len(Extent(l, 2)) > 0 {
			extents++
		}
	}
	if extents < 10 {
		t.Errorf("only %d layouts with extents", extents)
	}
}

// The longest edges, the most routes and the longest paths.
func TestLockedOfTheGreatestLayout(t *testing.T) {
	l := laid(slices.Repeat([]int{1000000}, 40))
	var list []api.Lock
	var own []int
	for i := range 30 {
		path := over(i, i+1, i+2, i+3, i+4, i+5, i+6, i+7)
		if i%2 == 1 {
			path = topo.Back(path)
		}
		l.Routes = append(l.Routes, api.Route{ID: 1000 - i, Path: path, Gap: 7999999, Timer: 1000})
		list = append(list, lk(1000-i, 5, i+1))
	}
	for i := range 37 {
		own = append(own, i)
	}
	expectLocked(t, l, list, 5, wholeEdges(l, own...)...)
	expectMay(t, l, state(1<<40, list[:24]...), true)
	expectSetFails(t, l, state(1<<40-1, list[:24]...), 1000-24, 5, api.ErrFull)
	expectSet(t, l, state(30, list[:23]...), 1000-24, 5, state(31, append(slices.Clone(list[:23]), lk(1000-24, 5, 30))...), 30, api.OK)
	expectSetFails(t, l, state(30, list[:23]...), 1000-29, 6, api.ErrLock)
	expectSet(t, l, state(30, list[:22]...), 1000-29, 6, state(31, append(slices.Clone(list[:22]), lk(1000-29, 6, 30))...), 30, api.OK)
}

// P16.1 to P16.4 over layouts, states and calls that are drawn.

// draw returns a function that returns numbers from 0 to n - 1, which depend on
// the seed alone.
func draw(seed uint64) func(n int) int {
	return func(n int) int {
		seed = seed*6364136223846793005 + 1442695040888963407
		return int(seed>>33) % n
	}
}

// drawn returns a valid layout with at most ten routes.
func drawn(t *testing.T, roll func(n int) int) api.Topo {
	t.Helper()
	var l api.Topo
	for i := range 2 + roll(9) {
		l.Edges = append(l.Edges, 1+roll(9))
		l.Bals = append(l.Bals, api.Bal{ID: i, Edge: i})
	}
	for range 3 * len(l.Edges) {
		l.Joints = append(l.Joints, joined(roll(len(l.Edges)), roll(2), roll(len(l.Edges)), roll(2)))
		if topo.Check(l) != api.OK {
			l.Joints = l.Joints[:len(l.Joints)-1]
		}
	}
	for range 1 + roll(10) {
		l.Routes = append(l.Routes, api.Route{ID: 1 + roll(14), Path: drawnPath(roll, l), Timer: 1 + roll(1000)})
		if topo.Check(l) != api.OK {
			l.Routes = l.Routes[:len(l.Routes)-1]
		}
	}
	if topo.Check(l) != api.OK || len(l.Routes) == 0 {
		t.Fatalf("%+v", l)
	}
	return l
}

// drawnPath returns a way over l of at most five steps, no two of them over the
// same edge.
func drawnPath(roll func(n int) int, l api.Topo) []api.Step {
	path := []api.Step{{Edge: roll(len(l.Edges)), Rev: roll(2) == 0}}
	for range roll(5) {
		after := slices.DeleteFunc(topo.After(l, path[len(path)-1]), func(s api.Step) bool {
			return slices.ContainsFunc(path, func(other api.Step) bool { return other.Edge == s.Edge })
		})
		if len(after) == 0 {
			break
		}
		path = append(path, after[roll(len(after))])
	}
	return path
}

// drawnState returns a valid state with some locks, and some numbers left out.
func drawnState(t *testing.T, roll func(n int) int, l api.Topo) api.Inter {
	t.Helper()
	x := state([]int{1, 1, 5, 1 << 32, 1<<40 - 6}[roll(5)])
	for range roll(8) {
		k := lk(l.Routes[roll(len(l.Routes))].ID, 5+roll(4), x.Next)
		if y := state(x.Next+1+roll(2), append(slices.Clone(x.Locks), k)...); wantMay(l, y) {
			x = y
		}
	}
	expectMay(t, l, x, true)
	return x
}

// expectApart checks that no edge is locked for two trains.
func expectApart(t *testing.T, l api.Topo, x api.Inter) {
	t.Helper()
	trains := map[int]int{}
	for _, k := range x.Locks {
		r, ok := topo.Route(l, k.Route)
		if !ok {
			t.Fatalf("%+v: %+v has no route", l, x)
		}
		for _, s := range r.Path {
			if train, taken := trains[s.Edge]; taken && train != k.Train {
				t.Fatalf("%+v: %+v locks edge %d for %d and %d", l, x, s.Edge, train, k.Train)
			}
			trains[s.Edge] = k.Train
		}
	}
}

// expectEachTrain checks what is told of each train against the locks of x.
func expectEachTrain(t *testing.T, l api.Topo, x api.Inter) {
	t.Helper()
	for train := 4; train < 10; train++ {
		expectOf(t, x.Locks, train, wantOf(x.Locks, train)...)
		expectLocked(t, l, x.Locks, train, wantLocked(l, x.Locks, train)...)
	}
}

// history is what calls have led to: the state, the locks that were set and not
// released since, and the numbers that were assigned.
type history struct {
	x    api.Inter
	list []api.Lock
	used map[int]bool
}

func (h *history) set(t *testing.T, l api.Topo, route, train int) api.Errno {
	t.Helper()
	y, no, err := wantSet(l, h.x, route, train)
	expectSet(t, l, h.x, route, train, y, no, err)
	if err != api.OK {
		return err
	}
	if h.used[no] {
		t.Fatalf("%+v: the number %d is assigned again", y, no)
	}
	h.x, h.used[no] = y, true
	h.list = append(h.list, lk(route, train, no))
	return api.OK
}

func (h *history) free(t *testing.T, l api.Topo, no int) api.Errno {
	t.Helper()
	y, err := wantFree(l, h.x, no)
	expectFree(t, l, h.x, no, y, err)
	if err == api.OK {
		h.x = y
		h.list = slices.DeleteFunc(h.list, func(k api.Lock) bool { return k.No == no })
	}
	return err
}

// drawnTrain returns mostly one of a few trains, and seldom one out of range.
func drawnTrain(roll func(n int) int) int {
	if roll(30) == 0 {
		return []int{-1, 1 << 24}[roll(2)]
	}
	return 5 + roll(4)
}

// Calls from a valid state: nothing is locked for two trains, a lock stays until
// it is released by its number, and no number is assigned twice.
func TestDrawnCalls(t *testing.T) {
	set, freed := map[api.Errno]int{}, map[api.Errno]int{}
	for seed := range 1500 {
		roll := draw(uint64(seed))
		l := drawn(t, roll)
		x := drawnState(t, roll, l)
		h := &history{x: x, list: slices.Clone(x.Locks), used: map[int]bool{}}
		for _, k := range x.Locks {
			h.used[k.No] = true
		}
		for range 30 {
			if len(h.x.Locks) > 0 && roll(3) == 0 {
				freed[h.free(t, l, h.x.Locks[roll(len(h.x.Locks))].No+roll(4)/3)]++
			} else {
				set[h.set(t, l, roll(16), drawnTrain(roll))]++
			}
			if !slices.Equal(h.x.Locks, h.list) {
				t.Fatalf("%+v, want %+v", h.x, h.list)
			}
			expectMay(t, l, h.x, true)
			expectApart(t, l, h.x)
		}
		expectEachTrain(t, l, h.x)
	}
	for _, err := range []api.Errno{api.OK, api.ErrArg, api.ErrNone, api.ErrThere, api.ErrLock, api.ErrFull} {
		if set[err] < 200 {
			t.Errorf("Set: error %d only %d times", err, set[err])
		}
	}
	if freed[api.OK] < 2000 || freed[api.ErrNone] < 500 {
		t.Errorf("Free: %v", freed)
	}
}

// change changes one thing about a layout or a state, as a rule to what it may not
// be.
func change(roll func(n int) int, l *api.Topo, x *api.Inter) {
	numbers := []int{math.MinInt, -1, 0, 1, 2, 5, 6, 14, x.Next - 1, x.Next, 1 << 24, 1 << 32, 1 << 40, 1<<40 + 1, math.MaxInt}
	n := numbers[roll(len(numbers))]
	places := []*int{&x.Next, &l.Edges[roll(len(l.Edges))], &l.Routes[roll(len(l.Routes))].ID, &l.Routes[roll(len(l.Routes))].Path[0].Edge}
	if len(x.Locks) > 0 {
		k, other := &x.Locks[roll(len(x.Locks))], x.Locks[roll(len(x.Locks))]
		switch roll(6) {
		case 0:
			*k = other
		case 1:
			k.Route = other.Route
		case 2:
			k.Train = 5 + roll(4)
		}
		places = append(places, &k.Route, &k.Train, &k.No, &k.Route, &k.Train, &k.No)
	}
	*places[roll(len(places))] = n
}

// States in which one or two things were changed.
func TestDrawnStates(t *testing.T) {
	valid, extents := map[bool]int{}, 0
	for seed := range 4000 {
		roll := draw(uint64(seed) + 1<<40)
		l := drawn(t, roll)
		x := drawnState(t, roll, l)
		for range 1 + roll(2) {
			change(roll, &l, &x)
		}
		may := wantMay(l, x)
		expectMay(t, l, x, may)
		valid[may]++
		for route := -1; route < 16; route++ {
			want := wantExtent(l, route)
			expectExtent(t, l, route, want...)
			if len(want) > 0 && !may {
				extents++
			}
		}
		if !may {
			expectSetFails(t, l, x, roll(16), 5+roll(4), api.ErrArg)
			expectFreeFails(t, l, x, roll(9), api.ErrArg)
		}
		expectEachTrain(t, l, x)
	}
	if valid[true] < 400 || valid[false] < 2000 || extents < 4000 {
		t.Errorf("%v, %d extents", valid, extents)
	}
}

// What is locked for the trains of a state is apart, and together it is what its
// routes go over.
func TestLockedIsApart(t *testing.T) {
	shared := 0
	for seed := range 3000 {
		roll := draw(uint64(seed) + 1<<41)
		l := drawn(t, roll)
		x := drawnState(t, roll, l)
		trains, all := map[int]int{}, map[int]bool{}
		for train := 5; train < 9; train++ {
			for _, s := range Locked(l, x.Locks, train) {
				if _, taken := trains[s.Edge]; taken {
					t.Fatalf("%+v: %+v: edge %d", l, x, s.Edge)
				}
				trains[s.Edge] = train
			}
		}
		for _, k := range x.Locks {
			for _, s := range Extent(l, k.Route) {
				if trains[s.Edge] != k.Train || s.Lo != 0 || s.Hi != l.Edges[s.Edge] {
					t.Fatalf("%+v: %+v: %+v", l, x, s)
				}
				if all[s.Edge] {
					shared++
				}
				all[s.Edge] = true
			}
		}
		if len(all) != len(trains) {
			t.Fatalf("%+v: %+v: %v and %v", l, x, trains, all)
		}
	}
	if shared < 500 {
		t.Errorf("only %d edges are shared", shared)
	}
}

// R5: nothing is kept between calls, so layouts and states do not affect one
// another.
func TestStatesAreApart(t *testing.T) {
	for range 3 {
		expectSet(t, example(), New(), 2, 5, state(2, lk(2, 5, 1)), 1, api.OK)
		expectSet(t, yard(), New(), 2, 6, state(2, lk(2, 6, 1)), 1, api.OK)
		expectExtent(t, example(), 2, wholeEdges(example(), 1, 2)...)
		expectExtent(t, yard(), 2, wholeEdges(yard(), 1, 2)...)
		expectFreeFails(t, example(), New(), 1, api.ErrNone)
		expectMay(t, api.Topo{}, New(), true)
	}
}
