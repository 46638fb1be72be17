package span

import (
	"math"
	"reflect"
	"slices"
	"testing"

	"lineside/api"
	"lineside/topo"
)

// The rules of the chapter written anew: one decimetre is looked at after the
// other. Only how long a path is, and what is wrong with it, they ask package topo.

// wantHas reports whether a span of l contains the decimetre at of edge.
func wantHas(l []api.Span, edge, at int) bool {
	for _, s := range l {
		if s.Edge >= 0 && 0 <= s.Lo && s.Lo < s.Hi && s.Hi <= 1000000 && s.Edge == edge && s.Lo <= at && at <= s.Hi-1 {
			return true
		}
	}
	return false
}

// runs returns the normal form of the decimetres of edge, up to the one before
// most, that in reports.
func runs(edge, most int, in func(at int) bool) []api.Span {
	var list []api.Span
	for at := range most {
		switch {
		case !in(at):
		case at > 0 && in(at-1):
			list[len(list)-1].Hi++
		default:
			list = append(list, api.Span{Edge: edge, Lo: at, Hi: at + 1})
		}
	}
	return list
}

// wantSet returns the normal form of what in reports among the decimetres that a
// or b may contain.
func wantSet(a, b []api.Span, in func(inA, inB bool) bool) []api.Span {
	var edges []int
	most := 0
	for _, s := range slices.Concat(a, b) {
		edges = append(edges, s.Edge)
		if wantHas([]api.Span{s}, s.Edge, s.Lo) {
			most = max(most, s.Hi)
		}
	}
	slices.Sort(edges)
	var list []api.Span
	for _, edge := range slices.Compact(edges) {
		list = append(list, runs(edge, most, func(at int) bool { return in(wantHas(a, edge, at), wantHas(b, edge, at)) })...)
	}
	return list
}

func wantNorm(l []api.Span) []api.Span {
	return wantSet(l, nil, func(inA, _ bool) bool { return inA })
}

func wantUnion(a, b []api.Span) []api.Span {
	return wantSet(a, b, func(inA, inB bool) bool { return inA || inB })
}

func wantMinus(a, b []api.Span) []api.Span {
	return wantSet(a, b, func(inA, inB bool) bool { return inA && !inB })
}

func wantBoth(a, b []api.Span) []api.Span {
	return wantSet(a, b, func(inA, inB bool) bool { return inA && inB })
}

func wantTotal(l []api.Span) int {
	n := 0
	for _, s := range wantNorm(l) {
		n += s.Hi - s.Lo
	}
	return n
}

func wantOver(l api.Topo, path []api.Step, from, to int) ([]api.Span, api.Errno) {
	length, err := topo.Length(l, path)
	if err != 0 {
		return nil, err
	}
	if from < 0 || to < 0 || from > to || to > length {
		return nil, 1
	}
	gone := make([][]bool, len(l.Edges))
	for edge, n := range l.Edges {
		if n <= 0 || n > 1000000 {
			return nil, 1
		}
		gone[edge] = make([]bool, n)
	}
	n := 0
	for _, s := range path {
		for d := range l.Edges[s.Edge] {
			at := d
			if s.Rev {
				at = l.Edges[s.Edge] - 1 - d
			}
			if from <= n && n < to {
				gone[s.Edge][at] = true
			}
			n++
		}
	}
	var list []api.Span
	for edge, n := range l.Edges {
		list = append(list, runs(edge, n, func(at int) bool { return gone[edge][at] })...)
	}
	return list, 0
}

// Calls, their results, and what is handed in.

// roomy returns a copy of list with room behind it, which holds something.
func roomy[T any](list []T, behind T) []T {
	return slices.Clip(append(slices.Clone(list), behind, behind))[:len(list)]
}

// whole returns list with the room behind it.
func whole[T any](list []T) []T { return list[:cap(list)] }

func roomySpans(l []api.Span) []api.Span { return roomy(l, sp(1, 2, 30)) }

func roomyTopo(l api.Topo) api.Topo {
	m := api.Topo{Edges: roomy(l.Edges, 77)}
	m.Joints = roomy(l.Joints, joined(77, 78, 79, 80))
	m.Bals = roomy(l.Bals, api.Bal{ID: 77, Edge: 78, At: 79})
	m.Routes = roomy(l.Routes, api.Route{ID: 77, Gap: 78, Timer: 79})
	for i := range whole(m.Routes) {
		whole(m.Routes)[i].Path = roomy(whole(m.Routes)[i].Path, back(77))
	}
	return m
}

// wholeTopo returns a copy of l with the room behind its lists.
func wholeTopo(l api.Topo) api.Topo {
	m := api.Topo{Edges: slices.Clone(whole(l.Edges)), Joints: slices.Clone(whole(l.Joints))}
	m.Bals, m.Routes = slices.Clone(whole(l.Bals)), slices.Clone(whole(l.Routes))
	for i, r := range m.Routes {
		m.Routes[i].Path = slices.Clone(whole(r.Path))
	}
	return m
}

// spoilt returns a copy of l, and writes over l and the room behind it.
func spoilt(l []api.Span) []api.Span {
	list := slices.Clone(l)
	for i := range whole(l) {
		whole(l)[i] = sp(-7, -7, -7)
	}
	return list
}

// expectKept makes a call with a and b twice. It checks that it changes neither
// of them, that the result shares no memory with them, and that the second result
// is like the first one, which it returns.
func expectKept(t *testing.T, what string, a, b []api.Span, call func(a, b []api.Span) []api.Span) []api.Span {
	t.Helper()
	x, y := roomySpans(a), roomySpans(b)
	first := spoilt(call(x, y))
	if !slices.Equal(whole(x), whole(roomySpans(a))) || !slices.Equal(whole(y), whole(roomySpans(b))) {
		t.Fatalf("%s changes what it is given, or shares memory with it: %v %v, before %v %v", what, whole(x), whole(y), a, b)
	}
	second := call(x, y)
	spoilt(x)
	spoilt(y)
	if !slices.Equal(first, second) {
		t.Fatalf("%s(%v, %v): %v, and then %v", what, a, b, first, second)
	}
	return first
}

// expectSame checks a list of spans against the chapter and against a list that
// is written out.
func expectSame(t *testing.T, what string, a, b, have, chapter, want []api.Span) {
	t.Helper()
	if !slices.Equal(chapter, want) {
		t.Fatalf("the chapter says %v of %s(%v, %v), want %v", chapter, what, a, b, want)
	}
	if !slices.Equal(have, want) {
		t.Fatalf("%s(%v, %v): %v, want %v", what, a, b, have, want)
	}
}

func expectNorm(t *testing.T, l []api.Span, want ...api.Span) {
	t.Helper()
	have := expectKept(t, "Norm", l, nil, func(l, _ []api.Span) []api.Span { return Norm(l) })
	expectSame(t, "Norm", l, nil, have, wantNorm(l), want)
	total := 0
	for _, s := range want {
		total += s.Hi - s.Lo
	}
	expectTotal(t, l, total)
	expectTotal(t, want, total)
}

func expectTotal(t *testing.T, l []api.Span, want int) {
	t.Helper()
	if other := wantTotal(l); other != want {
		t.Fatalf("the chapter says %d of Total(%v), want %d", other, l, want)
	}
	expectKept(t, "Total", l, nil, func(l, _ []api.Span) []api.Span {
		if have := Total(l); have != want {
			t.Fatalf("Total(%v): %d, want %d", l, have, want)
		}
		return nil
	})
}

func expectHas(t *testing.T, l []api.Span, edge, at int, want bool) {
	t.Helper()
	if other := wantHas(l, edge, at); other != want {
		t.Fatalf("the chapter says %v of Has(%v, %d, %d), want %v", other, l, edge, at, want)
	}
	expectKept(t, "Has", l, nil, func(l, _ []api.Span) []api.Span {
		if have := Has(l, edge, at); have != want {
			t.Fatalf("Has(%v, %d, %d): %v, want %v", l, edge, at, have, want)
		}
		return nil
	})
}

func expectUnion(t *testing.T, a, b []api.Span, want ...api.Span) {
	t.Helper()
	expectSame(t, "Union", a, b, expectKept(t, "Union", a, b, Union), wantUnion(a, b), want)
	expectSame(t, "Union", b, a, expectKept(t, "Union", b, a, Union), wantUnion(b, a), want)
}

// expectMinus checks Within too, which is whether nothing remains.
func expectMinus(t *testing.T, a, b []api.Span, want ...api.Span) {
	t.Helper()
	expectSame(t, "Minus", a, b, expectKept(t, "Minus", a, b, Minus), wantMinus(a, b), want)
	expectKept(t, "Within", a, b, func(a, b []api.Span) []api.Span {
		if have := Within(a, b); have != (len(want) == 0) {
			t.Fatalf("Within(%v, %v): %v, but there remains %v", a, b, have, want)
		}
		return nil
	})
}

// expectBoth checks Meets too, which is whether there is anything.
func expectBoth(t *testing.T, a, b []api.Span, want ...api.Span) {
	t.Helper()
	for _, l := range [][2][]api.Span{{a, b}, {b, a}} {
		a, b := l[0], l[1]
		expectSame(t, "Both", a, b, expectKept(t, "Both", a, b, Both), wantBoth(a, b), want)
		expectKept(t, "Meets", a, b, func(a, b []api.Span) []api.Span {
			if have := Meets(a, b); have != (len(want) > 0) {
				t.Fatalf("Meets(%v, %v): %v, but in common they have %v", a, b, have, want)
			}
			return nil
		})
	}
}

// expectChapter checks all calls with a and b against the chapter.
func expectChapter(t *testing.T, a, b []api.Span) {
	t.Helper()
	expectNorm(t, a, wantNorm(a)...)
	expectUnion(t, a, b, wantUnion(a, b)...)
	expectMinus(t, a, b, wantMinus(a, b)...)
	expectMinus(t, b, a, wantMinus(b, a)...)
	expectBoth(t, a, b, wantBoth(a, b)...)
}

func expectOver(t *testing.T, l api.Topo, path []api.Step, from, to int, want []api.Span, wantErr api.Errno) {
	t.Helper()
	if list, err := wantOver(l, path, from, to); !slices.Equal(list, want) || err != wantErr {
		t.Fatalf("the chapter says %v %d of Over(%+v, %+v, %d, %d), want %v %d", list, err, l, path, from, to, want, wantErr)
	}
	m, steps := roomyTopo(l), roomy(path, back(77))
	before, stepsBefore := wholeTopo(m), slices.Clone(whole(steps))
	for range 2 {
		list, err := Over(m, steps, from, to)
		if !slices.Equal(list, want) || err != wantErr {
			t.Fatalf("Over(%+v, %+v, %d, %d): %v %d, want %v %d", l, path, from, to, list, err, want, wantErr)
		}
		spoilt(list)
		if !reflect.DeepEqual(wholeTopo(m), before) || !slices.Equal(whole(steps), stepsBefore) {
			t.Fatalf("Over changes what it is given: %+v %+v, before %+v %+v", wholeTopo(m), steps, l, path)
		}
	}
}

// expectOverFails checks that Over has an error, and nothing beside it.
func expectOverFails(t *testing.T, l api.Topo, path []api.Step, from, to int, want api.Errno) {
	t.Helper()
	expectOver(t, l, path, from, to, nil, want)
}

// Spans, layouts and paths to begin with.

// sp and spans write spans: Edge, Lo and Hi.
func sp(edge, lo, hi int) api.Span { return api.Span{Edge: edge, Lo: lo, Hi: hi} }

func spans(list ...api.Span) []api.Span { return list }

// on and back write steps, and over a path of steps without Rev.
func on(edge int) api.Step { return api.Step{Edge: edge} }

func back(edge int) api.Step { return api.Step{Edge: edge, Rev: true} }

func over(edges ...int) []api.Step {
	var path []api.Step
	for _, n := range edges {
		path = append(path, on(n))
	}
	return path
}

// joined writes a joint: which edge, and At which of its ends, twice.
func joined(a, atA, b, atB int) api.Joint {
	return api.Joint{A: api.End{Edge: a, At: atA}, B: api.End{Edge: b, At: atB}}
}

// example returns the layout of the example in chapter 13, with balise groups and
// a route.
func example() api.Topo {
	return api.Topo{
		Edges:  []int{100, 200, 300},
		Joints: []api.Joint{joined(0, 1, 1, 0), joined(0, 1, 2, 1)},
		Bals:   []api.Bal{{ID: 7, At: 40}, {ID: 8, Edge: 1, At: 200}, {ID: 9, Edge: 2}},
		Routes: []api.Route{{ID: 1, Path: over(0, 1), Gap: 10, Timer: 60}},
	}
}

// ring returns edges of the lengths lens in a circle.
func ring(lens ...int) api.Topo {
	l := api.Topo{Edges: lens}
	for i := range lens {
		l.Joints = append(l.Joints, joined(i, 1, (i+1)%len(lens), 0))
	}
	return l
}

// loop returns an edge of the length 10 to whose end a loop of the edges 1 and 2,
// of the lengths 20 and 30, is joined.
func loop() api.Topo {
	return api.Topo{
		Edges:  []int{10, 20, 30},
		Joints: []api.Joint{joined(0, 1, 1, 0), joined(1, 1, 2, 0), joined(0, 1, 2, 1)},
	}
}

// outside returns numbers below 0 and above most. Cut to 32 bits, some of them
// would lie between.
func outside(most int) []int {
	return []int{
		math.MinInt, math.MinInt + 1, -1 << 62, -1<<42 + most, -1 << 40, -1 << 32, -most - 1, -2, -1,
		most + 1, most + 2, 2*most + 2, 1<<32 + most, 1<<42 + most, 1 << 62, math.MaxInt - 1, math.MaxInt,
	}
}

// orders returns the lists of the spans of l in every order.
func orders(l []api.Span) [][]api.Span {
	if len(l) == 0 {
		return [][]api.Span{nil}
	}
	var lists [][]api.Span
	for _, list := range orders(l[1:]) {
		for i := range l {
			lists = append(lists, slices.Insert(slices.Clone(list), i, l[0]))
		}
	}
	return lists
}

// The limits and errors of the chapter are those of api.

func TestLimits(t *testing.T) {
	have := []int{api.MaxLen, int(api.OK), int(api.ErrArg), int(api.ErrEnd)}
	if want := []int{1000000, 0, 1, 141}; !slices.Equal(have, want) {
		t.Errorf("%v, want %v", have, want)
	}
}

// The chapter's examples.

func TestExamples(t *testing.T) {
	l := spans(sp(1, 5, 9), sp(0, 0, 3), sp(1, 9, 12), sp(0, 5, 5))
	expectNorm(t, l, sp(0, 0, 3), sp(1, 5, 12))
	expectMinus(t, l, spans(sp(1, 6, 7)), sp(0, 0, 3), sp(1, 5, 6), sp(1, 7, 12))
	expectMinus(t, Norm(l), spans(sp(1, 6, 7)), sp(0, 0, 3), sp(1, 5, 6), sp(1, 7, 12))
}

// P15.1: Norm and Total

func TestNormOfNothing(t *testing.T) {
	expectNorm(t, nil)
	expectNorm(t, spans())
	expectNorm(t, spans(sp(0, 0, 0)))
	expectNorm(t, make([]api.Span, 100))
}

func TestNormOfOneSpan(t *testing.T) {
	for _, s := range spans(sp(0, 0, 1), sp(0, 5, 9), sp(39, 1, 2), sp(40, 0, 7), sp(1<<32, 3, 4), sp(math.MaxInt, 0, 8)) {
		expectNorm(t, spans(s), s)
		expectNorm(t, spans(s, s), s)
		expectNorm(t, slices.Repeat(spans(s), 50), s)
	}
}

// Spans that overlap, lie inside one another or touch become one, whatever their
// order; those that are one decimetre apart do not.
func TestNormOfSpansOnOneEdge(t *testing.T) {
	for _, c := range []struct{ list, want []api.Span }{
		{spans(sp(0, 0, 5), sp(0, 3, 9)), spans(sp(0, 0, 9))},
		{spans(sp(0, 0, 5), sp(0, 4, 9)), spans(sp(0, 0, 9))},
		{spans(sp(0, 0, 5), sp(0, 5, 9)), spans(sp(0, 0, 9))},
		{spans(sp(0, 0, 5), sp(0, 6, 9)), spans(sp(0, 0, 5), sp(0, 6, 9))},
		{spans(sp(0, 0, 9), sp(0, 3, 5)), spans(sp(0, 0, 9))},
		{spans(sp(0, 0, 9), sp(0, 0, 5)), spans(sp(0, 0, 9))},
		{spans(sp(0, 0, 9), sp(0, 5, 9)), spans(sp(0, 0, 9))},
		{spans(sp(0, 0, 9), sp(0, 8, 9), sp(0, 9, 10)), spans(sp(0, 0, 10))},
		{spans(sp(0, 0, 9), sp(0, 2, 3), sp(0, 5, 6), sp(0, 7, 8)), spans(sp(0, 0, 9))},
		{spans(sp(0, 0, 9), sp(0, 1, 8), sp(0, 2, 7), sp(0, 3, 6), sp(0, 4, 5)), spans(sp(0, 0, 9))},
		{spans(sp(0, 0, 4), sp(0, 3, 7), sp(0, 6, 9), sp(0, 10, 12)), spans(sp(0, 0, 9), sp(0, 10, 12))},
		{spans(sp(0, 1, 2), sp(0, 2, 3), sp(0, 3, 4), sp(0, 4, 5)), spans(sp(0, 1, 5))},
		{spans(sp(0, 0, 1), sp(0, 2, 3), sp(0, 4, 5), sp(0, 6, 7)), spans(sp(0, 0, 1), sp(0, 2, 3), sp(0, 4, 5), sp(0, 6, 7))},
		{spans(sp(0, 0, 5), sp(0, 0, 5), sp(0, 5, 9), sp(0, 5, 9)), spans(sp(0, 0, 9))},
		{spans(sp(0, 2, 5), sp(0, 7, 9), sp(0, 5, 7), sp(0, 0, 3)), spans(sp(0, 0, 9))},
		{spans(sp(0, 999998, 999999), sp(0, 999999, 1000000), sp(0, 1, 2)), spans(sp(0, 1, 2), sp(0, 999998, 1000000))},
	} {
		for _, l := range orders(c.list) {
			expectNorm(t, l, c.want...)
		}
	}
}

// Spans of different edges never become one, not even where the numbers touch.
func TestNormOfSpansOnSeveralEdges(t *testing.T) {
	for _, c := range []struct{ list, want []api.Span }{
		{spans(sp(1, 0, 5), sp(0, 0, 5)), spans(sp(0, 0, 5), sp(1, 0, 5))},
		{spans(sp(0, 0, 5), sp(1, 5, 9)), spans(sp(0, 0, 5), sp(1, 5, 9))},
		{spans(sp(0, 5, 9), sp(1, 0, 5)), spans(sp(0, 5, 9), sp(1, 0, 5))},
		{spans(sp(0, 3, 9), sp(1, 0, 5)), spans(sp(0, 3, 9), sp(1, 0, 5))},
		{spans(sp(0, 0, 5), sp(1, 0, 5), sp(0, 5, 6), sp(1, 5, 7)), spans(sp(0, 0, 6), sp(1, 0, 7))},
		{spans(sp(2, 7, 9), sp(10, 0, 1), sp(2, 0, 1), sp(1, 8, 9)), spans(sp(1, 8, 9), sp(2, 0, 1), sp(2, 7, 9), sp(10, 0, 1))},
		{spans(sp(math.MaxInt, 0, 2), sp(1<<32, 0, 2), sp(0, 0, 2), sp(math.MaxInt-1, 2, 3)), spans(sp(0, 0, 2), sp(1<<32, 0, 2), sp(math.MaxInt-1, 2, 3), sp(math.MaxInt, 0, 2))},
		{spans(sp(0, 999999, 1000000), sp(1, 0, 1), sp(1, 999999, 1000000)), spans(sp(0, 999999, 1000000), sp(1, 0, 1), sp(1, 999999, 1000000))},
	} {
		for _, l := range orders(c.list) {
			expectNorm(t, l, c.want...)
		}
	}
}

// nothings returns spans that contain nothing, as one of their numbers may not be
// or there is nothing between Lo and Hi.
func nothings() []api.Span {
	list := spans(
		sp(0, 0, 0), sp(0, 5, 5), sp(0, 1000000, 1000000), sp(0, 5, 4), sp(0, 3, 0), sp(0, 1000000, 0), sp(0, 1000000, 999999),
		sp(0, 0, 1000001), sp(0, 5, 1000001), sp(0, 999999, 1000001), sp(0, 1000000, 1000001), sp(0, 1000001, 5), sp(0, 1000001, 1000001),
		sp(0, -1, 0), sp(0, -1, 1), sp(0, -1, 5), sp(0, -1, 1000000), sp(0, -1, 1000001), sp(0, -5, -1), sp(0, 5, -1), sp(0, 0, -1), sp(0, -1, -1),
	)
	for _, n := range outside(1000000) {
		list = append(list, sp(0, n, 5), sp(0, 0, n), sp(0, 5, n), sp(0, n, 1000000), sp(0, n, n))
		for _, m := range outside(1000000) {
			list = append(list, sp(0, n, m))
		}
	}
	for _, edge := range []int{math.MinInt, math.MinInt + 1, -1 << 62, -1 << 32, -2, -1} {
		list = append(list, sp(edge, 0, 5), sp(edge, 0, 1000000), sp(edge, 5, 5), sp(edge, -1, 5), sp(edge, math.MinInt, math.MaxInt))
	}
	return list
}

func TestNormOfSpansThatContainNothing(t *testing.T) {
	for _, s := range nothings() {
		expectNorm(t, spans(s))
		expectNorm(t, spans(s, s))
		expectHas(t, spans(s), s.Edge, s.Lo, false)
		expectHas(t, spans(s), s.Edge, s.Hi, false)
		expectHas(t, spans(s), 0, 0, false)
		expectHas(t, spans(s), 0, 6, false)
	}
	if l := Norm(nothings()); len(l) != 0 || Total(nothings()) != 0 {
		t.Errorf("%v %d", l, Total(nothings()))
	}
}

// They change nothing about other spans: they connect none, and cut none.
func TestNormBesideSpansThatContainNothing(t *testing.T) {
	a, b := sp(0, 2, 4), sp(0, 6, 9)
	for _, s := range nothings() {
		if l := Norm(spans(a, s, b)); !slices.Equal(l, spans(a, b)) {
			t.Fatalf("Norm with %v: %v", s, l)
		}
		if l := Norm(spans(s, b, a)); !slices.Equal(l, spans(a, b)) {
			t.Fatalf("Norm with %v: %v", s, l)
		}
		if n := Total(spans(b, s, a)); n != 5 {
			t.Fatalf("Total with %v: %d", s, n)
		}
	}
	if l := Norm(append(nothings(), b, a)); !slices.Equal(l, spans(a, b)) {
		t.Errorf("%v", l)
	}
}

// All spans of numbers at both sides of every bound.
func TestNormAtTheBounds(t *testing.T) {
	numbers := []int{math.MinInt, -1, 0, 1, 5, 999999, 1000000, 1000001, math.MaxInt}
	for _, edge := range []int{math.MinInt, -1, 0, 1, math.MaxInt} {
		for _, lo := range numbers {
			for _, hi := range numbers {
				s, want := sp(edge, lo, hi), spans()
				if edge >= 0 && 0 <= lo && lo < hi && hi <= 1000000 {
					want = spans(s)
				}
				if l := Norm(spans(s)); !slices.Equal(l, want) {
					t.Fatalf("Norm of %v: %v", s, l)
				}
				if n := Total(spans(s, s)); len(want) == 0 && n != 0 || len(want) == 1 && n != hi-lo {
					t.Fatalf("Total of %v: %d", s, n)
				}
			}
		}
	}
}

// A whole edge of the greatest length, of which each end is cut off.
func TestNormOfTheLongestSpans(t *testing.T) {
	expectNorm(t, spans(sp(0, 0, 1000000)), sp(0, 0, 1000000))
	expectNorm(t, spans(sp(0, 1, 1000000), sp(0, 0, 999999)), sp(0, 0, 1000000))
	expectNorm(t, spans(sp(0, 500000, 1000000), sp(0, 0, 500000)), sp(0, 0, 1000000))
	expectNorm(t, spans(sp(0, 500001, 1000000), sp(0, 0, 500000)), sp(0, 0, 500000), sp(0, 500001, 1000000))
}

func TestNormOfManySpans(t *testing.T) {
	var list, apart []api.Span
	for i := range 3000 {
		list = append(list, sp(i%3, 5*(i/3), 5*(i/3)+5))
		apart = append(apart, sp(i/1000, 5*(i%1000), 5*(i%1000)+4))
	}
	if l := Norm(list); !slices.Equal(l, spans(sp(0, 0, 5000), sp(1, 0, 5000), sp(2, 0, 5000))) {
		t.Errorf("%v", l)
	}
	back := slices.Clone(apart)
	slices.Reverse(back)
	if l := Norm(append(back, apart...)); !slices.Equal(l, apart) {
		t.Errorf("%v", l)
	}
	if n, m := Total(list), Total(append(back, apart...)); n != 15000 || m != 12000 {
		t.Errorf("%d %d", n, m)
	}
}

func TestTotal(t *testing.T) {
	expectTotal(t, nil, 0)
	expectTotal(t, spans(), 0)
	expectTotal(t, spans(sp(0, 5, 5), sp(-1, 0, 9)), 0)
	expectTotal(t, spans(sp(0, 5, 6)), 1)
	expectTotal(t, spans(sp(0, 5, 9)), 4)
	expectTotal(t, spans(sp(0, 5, 9), sp(0, 5, 9)), 4)
	expectTotal(t, spans(sp(0, 5, 9), sp(0, 7, 12)), 7)
	expectTotal(t, spans(sp(0, 5, 9), sp(0, 9, 12)), 7)
	expectTotal(t, spans(sp(0, 5, 9), sp(0, 10, 12)), 6)
	expectTotal(t, spans(sp(0, 6, 7), sp(0, 5, 9), sp(0, 7, 8)), 4)
	expectTotal(t, spans(sp(0, 0, 9), sp(1, 0, 9), sp(2, 3, 4), sp(1, 5, 11)), 21)
	expectTotal(t, spans(sp(0, 0, 1000000), sp(0, 0, 1000001), sp(0, 5, 999999)), 1000000)
	var list []api.Span
	for edge := range 3000 {
		list = append(list, sp(edge, 0, 1000000), sp(edge, 1, 3))
	}
	if n := Total(list); n != 3000000000 {
		t.Errorf("%d", n)
	}
}

// P15.1: Has

func TestHasAtTheEndsOfASpan(t *testing.T) {
	for _, edge := range []int{0, 1, 39, 40, 1 << 32, math.MaxInt} {
		l := spans(sp(edge, 5, 9))
		for at := -2; at < 13; at++ {
			expectHas(t, l, edge, at, 5 <= at && at <= 8)
			for _, other := range []int{edge - 1, edge + 1, -edge - 1, edge ^ 1, math.MinInt} {
				expectHas(t, l, other, at, false)
			}
		}
	}
}

func TestHasAtTheEndsOfTheLongestSpan(t *testing.T) {
	l := spans(sp(3, 0, 1000000))
	for _, at := range []int{0, 1, 500000, 999998, 999999} {
		expectHas(t, l, 3, at, true)
		for _, edge := range outside(0) {
			expectHas(t, l, edge, at, edge == 3)
		}
	}
	for _, at := range append(outside(999999), 1000000) {
		expectHas(t, l, 3, at, false)
		expectHas(t, l, 2, at, false)
		expectHas(t, l, -1, at, false)
	}
}

func TestHasOfShortSpans(t *testing.T) {
	for _, lo := range []int{0, 1, 7, 999998, 999999} {
		l := spans(sp(0, lo, lo+1))
		expectHas(t, l, 0, lo-1, false)
		expectHas(t, l, 0, lo, true)
		expectHas(t, l, 0, lo+1, false)
	}
}

// Any span of a list counts, in any order, and where they overlap or touch.
func TestHasOfSeveralSpans(t *testing.T) {
	for _, l := range orders(spans(sp(0, 2, 4), sp(0, 3, 6), sp(0, 6, 7), sp(1, 9, 11), sp(0, 9, 10))) {
		for at := -1; at < 13; at++ {
			expectHas(t, l, 0, at, 2 <= at && at <= 6 || at == 9)
			expectHas(t, l, 1, at, at == 9 || at == 10)
			expectHas(t, l, 2, at, false)
			expectHas(t, l, -1, at, false)
		}
	}
}

func TestHasOfNothing(t *testing.T) {
	for _, edge := range []int{math.MinInt, -1, 0, 1, math.MaxInt} {
		for _, at := range []int{math.MinInt, -1, 0, 1, 999999, 1000000, math.MaxInt} {
			expectHas(t, nil, edge, at, false)
			expectHas(t, spans(), edge, at, false)
			expectHas(t, nothings(), edge, at, false)
		}
	}
}

// P15.1: Union, Minus, Both, Within and Meets

// pair is two lists, and what is expected of them: AB is what a contains and b
// does not.
type pair struct{ a, b, union, minusAB, minusBA, both []api.Span }

func pairs() []pair {
	var none []api.Span
	a := spans(sp(0, 3, 6), sp(0, 8, 9), sp(2, 0, 4))
	return []pair{
		{none, none, none, none, none, none},
		{a, none, a, a, none, none},
		{a, a, a, none, none, a},
		{a, spans(sp(-1, 3, 6), sp(0, 6, 3), sp(0, 3, 1000001)), a, a, none, none},
		// apart, and on different edges
		{spans(sp(0, 0, 4)), spans(sp(0, 5, 9)), spans(sp(0, 0, 4), sp(0, 5, 9)), spans(sp(0, 0, 4)), spans(sp(0, 5, 9)), none},
		{spans(sp(0, 0, 4)), spans(sp(1, 0, 4)), spans(sp(0, 0, 4), sp(1, 0, 4)), spans(sp(0, 0, 4)), spans(sp(1, 0, 4)), none},
		{spans(sp(0, 0, 4)), spans(sp(1, 4, 6)), spans(sp(0, 0, 4), sp(1, 4, 6)), spans(sp(0, 0, 4)), spans(sp(1, 4, 6)), none},
		{spans(sp(0, 2, 4)), spans(sp(1, 0, 4), sp(1, 6, 8)), spans(sp(0, 2, 4), sp(1, 0, 4), sp(1, 6, 8)), spans(sp(0, 2, 4)), spans(sp(1, 0, 4), sp(1, 6, 8)), none},
		{spans(sp(0, 2, 4), sp(2, 2, 4)), spans(sp(1, 2, 4)), spans(sp(0, 2, 4), sp(1, 2, 4), sp(2, 2, 4)), spans(sp(0, 2, 4), sp(2, 2, 4)), spans(sp(1, 2, 4)), none},
		// touching
		{spans(sp(0, 0, 5)), spans(sp(0, 5, 9)), spans(sp(0, 0, 9)), spans(sp(0, 0, 5)), spans(sp(0, 5, 9)), none},
		{spans(sp(0, 0, 3), sp(0, 6, 9)), spans(sp(0, 3, 6)), spans(sp(0, 0, 9)), spans(sp(0, 0, 3), sp(0, 6, 9)), spans(sp(0, 3, 6)), none},
		// overlapping, by more and by one
		{spans(sp(0, 0, 6)), spans(sp(0, 3, 9)), spans(sp(0, 0, 9)), spans(sp(0, 0, 3)), spans(sp(0, 6, 9)), spans(sp(0, 3, 6))},
		{spans(sp(0, 0, 6)), spans(sp(0, 5, 9)), spans(sp(0, 0, 9)), spans(sp(0, 0, 5)), spans(sp(0, 6, 9)), spans(sp(0, 5, 6))},
		// inside, at either end of it too
		{spans(sp(0, 0, 9)), spans(sp(0, 3, 6)), spans(sp(0, 0, 9)), spans(sp(0, 0, 3), sp(0, 6, 9)), none, spans(sp(0, 3, 6))},
		{spans(sp(0, 0, 9)), spans(sp(0, 0, 6)), spans(sp(0, 0, 9)), spans(sp(0, 6, 9)), none, spans(sp(0, 0, 6))},
		{spans(sp(0, 0, 9)), spans(sp(0, 3, 9)), spans(sp(0, 0, 9)), spans(sp(0, 0, 3)), none, spans(sp(0, 3, 9))},
		{spans(sp(0, 0, 9)), spans(sp(0, 0, 3), sp(0, 6, 9)), spans(sp(0, 0, 9)), spans(sp(0, 3, 6)), none, spans(sp(0, 0, 3), sp(0, 6, 9))},
		// cut into three
		{spans(sp(0, 0, 9)), spans(sp(0, 2, 4), sp(0, 5, 7)), spans(sp(0, 0, 9)), spans(sp(0, 0, 2), sp(0, 4, 5), sp(0, 7, 9)), none, spans(sp(0, 2, 4), sp(0, 5, 7))},
		{spans(sp(0, 1, 8)), spans(sp(0, 5, 7), sp(0, 2, 4), sp(1, 2, 4)), spans(sp(0, 1, 8), sp(1, 2, 4)), spans(sp(0, 1, 2), sp(0, 4, 5), sp(0, 7, 8)), spans(sp(1, 2, 4)), spans(sp(0, 2, 4), sp(0, 5, 7))},
		// covered by two that touch, or overlap, or lack one
		{spans(sp(0, 2, 7)), spans(sp(0, 0, 4), sp(0, 4, 9)), spans(sp(0, 0, 9)), none, spans(sp(0, 0, 2), sp(0, 7, 9)), spans(sp(0, 2, 7))},
		{spans(sp(0, 2, 7)), spans(sp(0, 3, 9), sp(0, 0, 4)), spans(sp(0, 0, 9)), none, spans(sp(0, 0, 2), sp(0, 7, 9)), spans(sp(0, 2, 7))},
		{spans(sp(0, 2, 7)), spans(sp(0, 0, 4), sp(0, 5, 9)), spans(sp(0, 0, 9)), spans(sp(0, 4, 5)), spans(sp(0, 0, 2), sp(0, 7, 9)), spans(sp(0, 2, 4), sp(0, 5, 7))},
		// what is not in normal form is a set all the same
		{spans(sp(0, 4, 9), sp(0, 0, 4), sp(0, 3, 5)), spans(sp(0, 2, 6), sp(0, 5, 7), sp(0, 3, 4)), spans(sp(0, 0, 9)), spans(sp(0, 0, 2), sp(0, 7, 9)), none, spans(sp(0, 2, 7))},
		{spans(sp(0, 2, 4), sp(0, 2, 4), sp(0, 1, 8)), spans(sp(0, 3, 4)), spans(sp(0, 1, 8)), spans(sp(0, 1, 3), sp(0, 4, 8)), none, spans(sp(0, 3, 4))},
		{spans(sp(1, 2, 4), sp(0, 2, 4), sp(1, 4, 8)), spans(sp(1, 0, 3), sp(0, 3, 4), sp(1, 5, 6)), spans(sp(0, 2, 4), sp(1, 0, 8)), spans(sp(0, 2, 3), sp(1, 3, 5), sp(1, 6, 8)), spans(sp(1, 0, 2)), spans(sp(0, 3, 4), sp(1, 2, 3), sp(1, 5, 6))},
		// beside what contains nothing
		{spans(sp(0, 2, 7), sp(0, 0, 1000001)), spans(sp(0, 3, 4), sp(0, -1, 9), sp(-1, 2, 7)), spans(sp(0, 2, 7)), spans(sp(0, 2, 3), sp(0, 4, 7)), none, spans(sp(0, 3, 4))},
		// at the ends of the longest edge
		{spans(sp(0, 0, 1000000)), spans(sp(0, 1, 999999)), spans(sp(0, 0, 1000000)), spans(sp(0, 0, 1), sp(0, 999999, 1000000)), none, spans(sp(0, 1, 999999))},
		{spans(sp(math.MaxInt, 1, 3)), spans(sp(math.MaxInt, 2, 4), sp(0, 2, 3)), spans(sp(0, 2, 3), sp(math.MaxInt, 1, 4)), spans(sp(math.MaxInt, 1, 2)), spans(sp(0, 2, 3), sp(math.MaxInt, 3, 4)), spans(sp(math.MaxInt, 2, 3))},
	}
}

func TestPairs(t *testing.T) {
	for _, p := range pairs() {
		expectUnion(t, p.a, p.b, p.union...)
		expectMinus(t, p.a, p.b, p.minusAB...)
		expectMinus(t, p.b, p.a, p.minusBA...)
		expectBoth(t, p.a, p.b, p.both...)
		for _, l := range [][]api.Span{p.a, p.b} {
			norm := wantNorm(l)
			expectUnion(t, l, l, norm...)
			expectBoth(t, l, l, norm...)
			expectMinus(t, l, l)
			expectUnion(t, l, nil, norm...)
			expectBoth(t, l, nil)
			expectMinus(t, l, nil, norm...)
			expectMinus(t, nil, l)
		}
	}
}

// Each of the lists of pairs with each of them, but for those of the longest edge.
func TestPairsWithOneAnother(t *testing.T) {
	var lists [][]api.Span
	for _, p := range pairs() {
		for _, l := range [][]api.Span{p.a, p.b} {
			if Total(l) < 1000 {
				lists = append(lists, l)
			}
		}
	}
	for _, a := range lists {
		for _, b := range lists {
			expectChapter(t, a, b)
		}
	}
}

// The same memory may be handed in twice.
func TestTheSameListTwice(t *testing.T) {
	l := spans(sp(1, 4, 9), sp(0, 2, 4), sp(1, 9, 12))
	norm := spans(sp(0, 2, 4), sp(1, 4, 12))
	if !slices.Equal(Union(l, l), norm) || !slices.Equal(Both(l, l), norm) || len(Minus(l, l)) > 0 || !Within(l, l) || !Meets(l, l) {
		t.Errorf("%v %v %v %v %v", Union(l, l), Both(l, l), Minus(l, l), Within(l, l), Meets(l, l))
	}
	if !slices.Equal(Minus(l, l[1:2]), norm[1:]) || !slices.Equal(Both(l[:2], l[1:]), norm[:1]) {
		t.Errorf("%v %v", Minus(l, l[1:2]), Both(l[:2], l[1:]))
	}
}

// A span that contains nothing is within everything and meets nothing.
func TestPairsWithSpansThatContainNothing(t *testing.T) {
	all := spans(sp(0, 0, 1000000), sp(1, 2, 3))
	for _, s := range nothings() {
		l := spans(s)
		if !slices.Equal(Union(l, all), all) || !slices.Equal(Union(all, l), all) || !slices.Equal(Minus(all, l), all) {
			t.Fatalf("%v: %v %v %v", s, Union(l, all), Union(all, l), Minus(all, l))
		}
		if len(Union(l, l)) > 0 || len(Minus(l, all)) > 0 || len(Minus(l, nil)) > 0 || len(Both(l, all)) > 0 || len(Both(all, l)) > 0 || len(Both(l, l)) > 0 {
			t.Fatalf("%v: %v %v %v %v %v %v", s, Union(l, l), Minus(l, all), Minus(l, nil), Both(l, all), Both(all, l), Both(l, l))
		}
		if !Within(l, all) || !Within(l, nil) || !Within(l, l) || Within(all, l) || Meets(l, all) || Meets(all, l) || Meets(l, l) {
			t.Fatalf("%v: %v %v %v %v %v %v %v", s, Within(l, all), Within(l, nil), Within(l, l), Within(all, l), Meets(l, all), Meets(all, l), Meets(l, l))
		}
	}
}

// All lists of two spans of one edge and one of it, with Lo and Hi of -1 to 4.
func TestAllSmallLists(t *testing.T) {
	var list []api.Span
	for lo := -1; lo <= 4; lo++ {
		for hi := lo; hi <= 4; hi++ {
			list = append(list, sp(0, lo, hi))
		}
	}
	for _, s := range list {
		for _, r := range list {
			for _, q := range list {
				expectChapter(t, spans(s, r), spans(q))
			}
		}
	}
}

// A caller of pieces may stop at any of them.
func TestPiecesUpToEachOne(t *testing.T) {
	a, b := spans(sp(0, 0, 9), sp(1, 3, 4)), spans(sp(0, 2, 4), sp(0, 6, 7), sp(1, 0, 9))
	want := []piece{
		{sp(0, 0, 2), true, false}, {sp(0, 2, 4), true, true}, {sp(0, 4, 6), true, false}, {sp(0, 6, 7), true, true}, {sp(0, 7, 9), true, false},
		{sp(1, 0, 3), false, true}, {sp(1, 3, 4), true, true}, {sp(1, 4, 9), false, true},
	}
	for n := 1; n <= len(want); n++ {
		var have []piece
		for p := range pieces(a, b) {
			have = append(have, p)
			if len(have) == n {
				break
			}
		}
		if !slices.Equal(have, want[:n]) {
			t.Errorf("%v, want %v", have, want[:n])
		}
	}
}

// P15.2

func TestOver(t *testing.T) {
	l := example()
	expectOver(t, l, over(0, 1), 40, 130, spans(sp(0, 40, 100), sp(1, 0, 30)), api.OK)
	expectOver(t, l, over(0, 1), 0, 300, spans(sp(0, 0, 100), sp(1, 0, 200)), api.OK)
	expectOver(t, l, over(0, 1), 0, 100, spans(sp(0, 0, 100)), api.OK)
	expectOver(t, l, over(0, 1), 0, 101, spans(sp(0, 0, 100), sp(1, 0, 1)), api.OK)
	expectOver(t, l, over(0, 1), 99, 101, spans(sp(0, 99, 100), sp(1, 0, 1)), api.OK)
	expectOver(t, l, over(0, 1), 99, 100, spans(sp(0, 99, 100)), api.OK)
	expectOver(t, l, over(0, 1), 100, 101, spans(sp(1, 0, 1)), api.OK)
	expectOver(t, l, over(0, 1), 299, 300, spans(sp(1, 199, 200)), api.OK)
	expectOver(t, l, []api.Step{back(1), back(0)}, 40, 230, spans(sp(0, 70, 100), sp(1, 0, 160)), api.OK)
	expectOver(t, l, []api.Step{back(1), back(0)}, 0, 1, spans(sp(1, 199, 200)), api.OK)
	expectOver(t, l, []api.Step{back(1), back(0)}, 199, 201, spans(sp(0, 99, 100), sp(1, 0, 1)), api.OK)
	expectOver(t, l, []api.Step{back(1), back(0)}, 200, 201, spans(sp(0, 99, 100)), api.OK)
	expectOver(t, l, []api.Step{back(1), back(0)}, 299, 300, spans(sp(0, 0, 1)), api.OK)
	expectOver(t, l, []api.Step{on(0), back(2)}, 50, 110, spans(sp(0, 50, 100), sp(2, 290, 300)), api.OK)
	expectOver(t, l, []api.Step{on(2), back(0)}, 290, 310, spans(sp(0, 90, 100), sp(2, 290, 300)), api.OK)
	expectOver(t, l, over(1), 20, 30, spans(sp(1, 20, 30)), api.OK)
	expectOver(t, l, []api.Step{back(1)}, 20, 30, spans(sp(1, 170, 180)), api.OK)
}

// examplePaths returns ways over the example in both directions.
func examplePaths() [][]api.Step {
	return [][]api.Step{over(0), over(1), over(2), {back(0)}, {back(1)}, {back(2)}, over(0, 1), {on(0), back(2)}, {back(1), back(0)}, {on(2), back(0)}}
}

// beside returns the distances along path at which an edge of l begins or ends,
// and those one before and one behind it.
func beside(l api.Topo, path []api.Step) []int {
	list, n := []int{-1, 0, 1}, 0
	for _, s := range path {
		n += l.Edges[s.Edge]
		list = append(list, n-1, n, n+1)
	}
	return list
}

// from and to at the ends of edges and one beside them.
func TestOverAtTheEndsOfEdges(t *testing.T) {
	l := example()
	for _, path := range examplePaths() {
		for _, from := range beside(l, path) {
			for _, to := range beside(l, path) {
				want, err := wantOver(l, path, from, to)
				expectOver(t, l, path, from, to, want, err)
			}
		}
	}
}

// Over nothing there are no decimetres, wherever that is.
func TestOverFromADistanceToItself(t *testing.T) {
	l := example()
	for _, path := range examplePaths() {
		length, _ := topo.Length(l, path)
		for n := range length + 1 {
			expectOver(t, l, path, n, n, nil, api.OK)
		}
		expectOverFails(t, l, path, -1, -1, api.ErrArg)
		expectOverFails(t, l, path, length+1, length+1, api.ErrArg)
	}
}

// Each single decimetre of a path.
func TestOverEachDecimetre(t *testing.T) {
	l := example()
	for _, path := range examplePaths() {
		n := 0
		for _, s := range path {
			for d := range l.Edges[s.Edge] {
				at := d
				if s.Rev {
					at = l.Edges[s.Edge] - d - 1
				}
				expectOver(t, l, path, n+d, n+d+1, spans(sp(s.Edge, at, at+1)), api.OK)
				expectOverFails(t, l, path, n+d+1, n+d, api.ErrArg)
			}
			n += l.Edges[s.Edge]
		}
	}
}

func TestOverOfDistancesThatMayNotBe(t *testing.T) {
	l := example()
	for _, path := range examplePaths() {
		length, _ := topo.Length(l, path)
		for _, n := range append(outside(length), math.MinInt, math.MaxInt) {
			for _, m := range append(outside(length), 0, 1, length-1, length, n) {
				expectOverFails(t, l, path, n, m, api.ErrArg)
				expectOverFails(t, l, path, m, n, api.ErrArg)
			}
		}
		expectOverFails(t, l, path, 1, 0, api.ErrArg)
		expectOverFails(t, l, path, length, 0, api.ErrArg)
		expectOverFails(t, l, path, length, length-1, api.ErrArg)
		expectOverFails(t, l, path, 0, length+1, api.ErrArg)
		expectOverFails(t, l, path, -1, length, api.ErrArg)
	}
}

// badPaths returns paths over the example, and what is wrong with them.
func badPaths() map[api.Errno][][]api.Step {
	return map[api.Errno][][]api.Step{
		api.ErrArg: {nil, {}, slices.Repeat(over(0), 41), over(3), over(-1), over(0, 3), over(-1, 0), over(0, 1, math.MaxInt), over(math.MinInt), over(2, 1, 3), over(1, 0, 3)},
		api.ErrEnd: {over(0, 0), over(1, 0), over(0, 2), over(1, 2), over(0, 1, 2), {on(0), back(1)}, {on(0), back(0)}, {back(0), on(0)}, slices.Repeat(over(0), 40)},
	}
}

// The error of the path comes before that of the distances and of the lengths of
// edges.
func TestOverOfPathsThatMayNotBe(t *testing.T) {
	layouts := []api.Topo{example()}
	for _, n := range outside(1000000) {
		for edge := range 3 {
			l := example()
			l.Edges[edge] = n
			layouts = append(layouts, l)
		}
	}
	for _, l := range layouts {
		for err, paths := range badPaths() {
			for _, path := range paths {
				for _, c := range [][2]int{{0, 0}, {0, 1}, {40, 130}, {-1, 5}, {6, 5}, {0, 1000}, {math.MinInt, math.MaxInt}, {math.MaxInt, math.MinInt}} {
					expectOverFails(t, l, path, c[0], c[1], err)
				}
			}
		}
	}
}

func TestOverOfAnEmptyLayout(t *testing.T) {
	for _, path := range [][]api.Step{nil, {}, over(0), {back(0)}, over(-1)} {
		for _, n := range []int{-1, 0, 1} {
			expectOverFails(t, api.Topo{}, path, 0, n, api.ErrArg)
		}
	}
}

// Each edge of a layout is 1 to MaxLen long, on the path and not on it.
func TestOverOfLengthsOfEdges(t *testing.T) {
	for edge := range 5 {
		for _, n := range append(outside(1000000), 0) {
			l := example()
			l.Edges = append(l.Edges, 7, 8)
			l.Edges[edge] = n
			for _, path := range examplePaths() {
				for _, c := range [][2]int{{0, 0}, {0, 1}, {1, 2}, {0, 5}, {-1, 1}, {1, 0}} {
					expectOverFails(t, l, path, c[0], c[1], api.ErrArg)
				}
			}
		}
		for _, n := range []int{1, 2, 999999, 1000000} {
			l := example()
			l.Edges = append(l.Edges, 7, 8)
			l.Edges[edge] = n
			for _, path := range [][]api.Step{over(0, 1), {back(1), back(0)}} {
				want, _ := wantOver(l, path, 0, l.Edges[0]+l.Edges[1])
				if list, err := Over(l, path, 0, l.Edges[0]+l.Edges[1]); err != api.OK || !slices.Equal(list, want) || !slices.Equal(list, spans(sp(0, 0, l.Edges[0]), sp(1, 0, l.Edges[1]))) {
					t.Fatalf("%v %+v: %v %d", l.Edges, path, list, err)
				}
			}
		}
	}
}

// An edge behind all that a layout may have is looked at too.
func TestOverOfLayoutsWithManyEdges(t *testing.T) {
	l := example()
	l.Edges = append(l.Edges, slices.Repeat([]int{5}, 200)...)
	expectOver(t, l, over(0, 1), 40, 130, spans(sp(0, 40, 100), sp(1, 0, 30)), api.OK)
	expectOver(t, l, over(202), 1, 4, spans(sp(202, 1, 4)), api.OK)
	l.Edges[202] = 0
	expectOverFails(t, l, over(0, 1), 40, 130, api.ErrArg)
	expectOverFails(t, l, over(202), 0, 0, api.ErrArg)
}

// Only the path and the lengths of the edges are looked at: what else may be
// wrong with a layout is no error.
func TestOverOfLayoutsThatAreNotValid(t *testing.T) {
	for _, spoil := range []func(l *api.Topo){
		func(l *api.Topo) { l.Joints = slices.Repeat(l.Joints, 41) },
		func(l *api.Topo) { l.Joints = append(l.Joints, joined(1, 1, 1, 1)) },
		func(l *api.Topo) { l.Joints = append(l.Joints, joined(1, 1, 3, 0)) },
		func(l *api.Topo) { l.Joints = append(l.Joints, joined(1, 0, 0, 1)) },
		func(l *api.Topo) { l.Joints[1].B.At = 2 },
		func(l *api.Topo) { l.Bals = append(l.Bals, api.Bal{ID: 7}) },
		func(l *api.Topo) { l.Bals = append(l.Bals, api.Bal{ID: -1, At: 101}) },
		func(l *api.Topo) { l.Bals = nil },
		func(l *api.Topo) { l.Routes = slices.Repeat(l.Routes, 31) },
		func(l *api.Topo) { l.Routes[0].Gap = 300 },
		func(l *api.Topo) { l.Routes[0].Path[1].Rev = true },
		func(l *api.Topo) { l.Routes[0].Path = nil },
	} {
		l := example()
		spoil(&l)
		if topo.Check(l) == api.OK {
			t.Fatalf("%+v is valid", l)
		}
		expectOver(t, l, over(0, 1), 40, 130, spans(sp(0, 40, 100), sp(1, 0, 30)), api.OK)
		expectOverFails(t, l, over(1, 0), 40, 130, api.ErrEnd)
		expectOverFails(t, l, over(0, 1), 40, 301, api.ErrArg)
	}
}

// A path that traverses an edge several times has its decimetres once.
func TestOverAnEdgeSeveralTimes(t *testing.T) {
	l := ring(10)
	expectOver(t, l, over(0, 0), 7, 13, spans(sp(0, 0, 3), sp(0, 7, 10)), api.OK)
	expectOver(t, l, over(0, 0), 7, 10, spans(sp(0, 7, 10)), api.OK)
	expectOver(t, l, over(0, 0), 10, 13, spans(sp(0, 0, 3)), api.OK)
	expectOver(t, l, over(0, 0), 5, 15, spans(sp(0, 0, 10)), api.OK)
	expectOver(t, l, over(0, 0), 5, 14, spans(sp(0, 0, 4), sp(0, 5, 10)), api.OK)
	expectOver(t, l, over(0, 0), 5, 20, spans(sp(0, 0, 10)), api.OK)
	expectOver(t, l, over(0, 0, 0), 12, 14, spans(sp(0, 2, 4)), api.OK)
	expectOver(t, l, over(0, 0, 0), 8, 21, spans(sp(0, 0, 10)), api.OK)
	expectOver(t, l, over(0, 0, 0), 22, 30, spans(sp(0, 2, 10)), api.OK)
	expectOver(t, l, []api.Step{back(0), back(0)}, 7, 13, spans(sp(0, 0, 3), sp(0, 7, 10)), api.OK)
	expectOver(t, l, []api.Step{back(0), back(0)}, 2, 5, spans(sp(0, 5, 8)), api.OK)
	expectOver(t, l, []api.Step{back(0), back(0)}, 12, 15, spans(sp(0, 5, 8)), api.OK)
	m := ring(4, 3)
	expectOver(t, m, over(1, 0, 1, 0), 2, 9, spans(sp(0, 0, 4), sp(1, 0, 3)), api.OK)
	expectOver(t, m, over(1, 0, 1, 0), 2, 8, spans(sp(0, 0, 4), sp(1, 0, 1), sp(1, 2, 3)), api.OK)
	expectOverFails(t, m, over(1, 0, 1, 0), 2, 15, api.ErrArg)
}

// Through a loop a path comes back over the edge that it came from.
func TestOverAnEdgeInBothDirections(t *testing.T) {
	l := loop()
	around := []api.Step{on(0), on(1), on(2), back(0)}
	expectOver(t, l, around, 0, 70, spans(sp(0, 0, 10), sp(1, 0, 20), sp(2, 0, 30)), api.OK)
	expectOver(t, l, around, 8, 67, spans(sp(0, 3, 10), sp(1, 0, 20), sp(2, 0, 30)), api.OK)
	expectOver(t, l, around, 2, 63, spans(sp(0, 2, 10), sp(1, 0, 20), sp(2, 0, 30)), api.OK)
	expectOver(t, l, around, 9, 61, spans(sp(0, 9, 10), sp(1, 0, 20), sp(2, 0, 30)), api.OK)
	expectOver(t, l, around, 10, 60, spans(sp(1, 0, 20), sp(2, 0, 30)), api.OK)
	expectOver(t, l, around, 60, 70, spans(sp(0, 0, 10)), api.OK)
	expectOver(t, l, topo.Back(around), 8, 67, spans(sp(0, 3, 10), sp(1, 0, 20), sp(2, 0, 30)), api.OK)
	turn := api.Topo{Edges: []int{10}, Joints: []api.Joint{joined(0, 1, 0, 1), joined(0, 0, 0, 0)}}
	expectOver(t, turn, []api.Step{on(0), back(0)}, 7, 15, spans(sp(0, 5, 10)), api.OK)
	expectOver(t, turn, []api.Step{on(0), back(0)}, 3, 11, spans(sp(0, 3, 10)), api.OK)
	expectOver(t, turn, []api.Step{back(0), on(0)}, 3, 11, spans(sp(0, 0, 7)), api.OK)
	expectOver(t, turn, []api.Step{on(0), back(0), on(0)}, 19, 21, spans(sp(0, 0, 1)), api.OK)
}

// The edges of a path come in any order, those of the result do not.
func TestOverInTheOrderOfEdges(t *testing.T) {
	l := api.Topo{Edges: []int{4, 5, 6}, Joints: []api.Joint{joined(2, 1, 0, 0), joined(0, 1, 1, 1)}}
	path := []api.Step{on(2), on(0), back(1)}
	expectOver(t, l, path, 2, 12, spans(sp(0, 0, 4), sp(1, 3, 5), sp(2, 2, 6)), api.OK)
	expectOver(t, l, topo.Back(path), 1, 11, spans(sp(0, 0, 4), sp(1, 1, 5), sp(2, 4, 6)), api.OK)
}

// A path has 1 to 40 steps.
func TestOverOfNumbersOfSteps(t *testing.T) {
	l := ring(3)
	for _, size := range []int{1, 2, 39, 40} {
		path := slices.Repeat(over(0), size)
		expectOver(t, l, path, 3*size-2, 3*size, spans(sp(0, 1, 3)), api.OK)
		expectOver(t, l, path, 0, 3*size, spans(sp(0, 0, 3)), api.OK)
		expectOverFails(t, l, path, 0, 3*size+1, api.ErrArg)
	}
	for _, size := range []int{0, 41, 42, 80, 296, 1 << 16} {
		expectOverFails(t, l, slices.Repeat(over(0), size), 0, 1, api.ErrArg)
		expectOverFails(t, l, slices.Repeat(over(0), size), 0, 0, api.ErrArg)
	}
}

// The longest path is 40 edges of the greatest length.
func TestOverTheLongestPath(t *testing.T) {
	l := ring(slices.Repeat([]int{1000000}, 40)...)
	var path, most []api.Step
	var all []api.Span
	for i := range 40 {
		path = append(path, back(39-i))
		most = append(most, on(i))
		all = append(all, sp(i, 0, 1000000))
	}
	expectOver(t, l, path, 0, 40000000, all, api.OK)
	for _, c := range []struct {
		path     []api.Step
		from, to int
		want     []api.Span
	}{
		{most, 0, 40000000, all},
		{path, 39999999, 40000000, spans(sp(0, 0, 1))},
		{most, 39999999, 40000000, spans(sp(39, 999999, 1000000))},
		{path, 999999, 1000001, spans(sp(38, 999999, 1000000), sp(39, 0, 1))},
		{most, 999999, 2000001, spans(sp(0, 999999, 1000000), sp(1, 0, 1000000), sp(2, 0, 1))},
	} {
		if list, err := Over(l, c.path, c.from, c.to); err != api.OK || !slices.Equal(list, c.want) {
			t.Errorf("%d to %d: %v %d", c.from, c.to, list, err)
		}
	}
	for _, n := range []int{40000001, 1<<32 + 5, 1 << 40, math.MaxInt} {
		if list, err := Over(l, path, 5, n); len(list) != 0 || err != api.ErrArg {
			t.Errorf("%d: %v %d", n, list, err)
		}
	}
}

// P15.1 to P15.3 over lists, layouts and paths that are drawn.

// draw returns a function that returns numbers from 0 to n - 1, which depend on
// the seed alone.
func draw(seed uint64) func(n int) int {
	return func(n int) int {
		seed = seed*6364136223846793005 + 1442695040888963407
		return int(seed>>33) % n
	}
}

// drawnSpans returns up to 6 spans on a few edges, some of which contain nothing.
func drawnSpans(roll func(n int) int) []api.Span {
	var list []api.Span
	for range roll(7) {
		lo := roll(14) - 1
		s := sp(roll(4)-1, lo, lo+roll(8)-1)
		if roll(8) == 0 {
			bad := nothings()
			s = bad[roll(len(bad))]
		}
		list = append(list, s)
	}
	return list
}

func TestDrawnLists(t *testing.T) {
	for seed := range 5000 {
		roll := draw(uint64(seed))
		expectChapter(t, drawnSpans(roll), drawnSpans(roll))
	}
}

// isNorm reports whether l is sorted, contains something in each of its spans, and
// has no two that overlap or touch: no shorter list contains the same.
func isNorm(l []api.Span) bool {
	for i, s := range l {
		if s.Edge < 0 || s.Lo < 0 || s.Lo >= s.Hi || s.Hi > 1000000 {
			return false
		}
		if i > 0 && (l[i-1].Edge > s.Edge || l[i-1].Edge == s.Edge && l[i-1].Hi >= s.Lo) {
			return false
		}
	}
	return true
}

// A decimetre is in a result exactly if it is in one of the two sets, in both of
// them, or in the first one only.
func TestEachDecimetre(t *testing.T) {
	for seed := range 5000 {
		roll := draw(uint64(seed) + 1<<40)
		a, b := drawnSpans(roll), drawnSpans(roll)
		union, both, minus, norm := Union(a, b), Both(a, b), Minus(a, b), Norm(a)
		if !isNorm(union) || !isNorm(both) || !isNorm(minus) || !isNorm(norm) {
			t.Fatalf("%v, %v: %v %v %v %v", a, b, union, both, minus, norm)
		}
		within, meets, total := true, false, 0
		for edge := -2; edge < 5; edge++ {
			for at := -3; at < 25; at++ {
				inA, inB := Has(a, edge, at), Has(b, edge, at)
				if Has(union, edge, at) != (inA || inB) || Has(both, edge, at) != (inA && inB) || Has(minus, edge, at) != (inA && !inB) || Has(norm, edge, at) != inA {
					t.Fatalf("%v, %v: %v %v %v %v at %d, %d", a, b, union, both, minus, norm, edge, at)
				}
				within, meets = within && (!inA || inB), meets || inA && inB
				if inA {
					total++
				}
			}
		}
		if Within(a, b) != within || Meets(a, b) != meets || Total(a) != total {
			t.Fatalf("%v, %v: %v %v %d, want %v %v %d", a, b, Within(a, b), Meets(a, b), Total(a), within, meets, total)
		}
	}
}

// Each set is the disjoint union of its intersection with another one and its
// difference from it.
func TestSetsAsDisjointUnions(t *testing.T) {
	cut := 0
	for seed := range 20000 {
		roll := draw(uint64(seed) + 1<<41)
		a, b := drawnSpans(roll), drawnSpans(roll)
		both, minus := Both(a, b), Minus(a, b)
		if !slices.Equal(Union(both, minus), Norm(a)) || Meets(both, minus) || Total(both)+Total(minus) != Total(a) {
			t.Fatalf("%v, %v: %v and %v", a, b, both, minus)
		}
		if !Within(both, a) || !Within(both, b) || !Within(minus, a) || Meets(minus, b) || !Within(a, Union(a, b)) || !Within(b, Union(a, b)) {
			t.Fatalf("%v, %v: %v and %v, %v", a, b, both, minus, Union(a, b))
		}
		if Total(Union(a, b)) != Total(a)+Total(b)-Total(both) {
			t.Fatalf("%v, %v: %v", a, b, Union(a, b))
		}
		if len(both) > 0 && len(minus) > 0 {
			cut++
		}
	}
	if cut < 2000 {
		t.Errorf("only %d sets were cut", cut)
	}
}

// The normal form of a normal form is itself, and spells the same set for all
// calls.
func TestNormOfNormalForms(t *testing.T) {
	for seed := range 5000 {
		roll := draw(uint64(seed) + 1<<42)
		a, b := drawnSpans(roll), drawnSpans(roll)
		x, y := Norm(a), Norm(b)
		if !slices.Equal(Norm(x), x) || !slices.Equal(Union(x, y), Union(a, b)) || !slices.Equal(Minus(x, y), Minus(a, b)) || !slices.Equal(Both(x, y), Both(a, b)) {
			t.Fatalf("%v, %v: %v, %v", a, b, x, y)
		}
		if Within(x, y) != Within(a, b) || Meets(x, y) != Meets(a, b) || Total(x) != Total(a) {
			t.Fatalf("%v, %v: %v, %v", a, b, x, y)
		}
	}
}

// drawn returns a valid layout.
func drawn(roll func(n int) int) api.Topo {
	var l api.Topo
	for range 1 + roll(6) {
		l.Edges = append(l.Edges, 1+roll(9))
	}
	for range 3 * roll(len(l.Edges)+1) {
		l.Joints = append(l.Joints, joined(roll(len(l.Edges)), roll(2), roll(len(l.Edges)), roll(2)))
		if topo.Check(l) != api.OK {
			l.Joints = l.Joints[:len(l.Joints)-1]
		}
	}
	return l
}

// drawnWay returns a way over l of at most size steps.
func drawnWay(roll func(n int) int, l api.Topo, size int) []api.Step {
	path := []api.Step{{Edge: roll(len(l.Edges)), Rev: roll(2) == 0}}
	for len(path) < size {
		after := topo.After(l, path[len(path)-1])
		if len(after) == 0 {
			break
		}
		path = append(path, after[roll(len(after))])
	}
	return path
}

// lengthOf returns the length of path, or 20 if there is something wrong with it.
func lengthOf(l api.Topo, path []api.Step) int {
	if n, err := topo.Length(l, path); err == api.OK {
		return n
	}
	return 20
}

// spoil changes one number about a layout, a path or distances, as a rule to what
// it may not be.
func spoil(roll func(n int) int, l *api.Topo, path []api.Step, from, to *int) {
	list := []*int{&l.Edges[roll(len(l.Edges))], &path[roll(len(path))].Edge, from, to}
	numbers := []int{math.MinInt, -1, 0, 1, len(l.Edges), 10, 1000001, math.MaxInt}
	*list[roll(len(list))] = numbers[roll(len(numbers))]
}

func TestOverDrawnLayouts(t *testing.T) {
	seen := map[api.Errno]int{}
	for seed := range 20000 {
		roll := draw(uint64(seed))
		l := drawn(roll)
		path := drawnWay(roll, l, 1+roll(42))
		from := roll(lengthOf(l, path) + 1)
		to := from + roll(lengthOf(l, path)-from+1)
		for range roll(3) {
			spoil(roll, &l, path, &from, &to)
		}
		want, err := wantOver(l, path, from, to)
		expectOver(t, l, path, from, to, want, err)
		seen[err]++
	}
	for _, err := range []api.Errno{api.OK, api.ErrArg, api.ErrEnd} {
		if seen[err] < 200 {
			t.Errorf("error %d only %d times", err, seen[err])
		}
	}
}

// repeatsEdge reports whether path traverses an edge twice, in any direction.
func repeatsEdge(path []api.Step) bool {
	seen := map[int]int{}
	for _, s := range path {
		seen[s.Edge]++
	}
	return len(seen) < len(path)
}

// A way that traverses no edge twice covers as many decimetres as it is long, any
// other one as many as the edges that it traverses are.
func TestOverAsManyDecimetresAsItIsLong(t *testing.T) {
	once, again := 0, 0
	for seed := range 10000 {
		roll := draw(uint64(seed) + 1<<43)
		l := drawn(roll)
		path := drawnWay(roll, l, 1+roll(6))
		length := lengthOf(l, path)
		all, err := Over(l, path, 0, length)
		if err != api.OK || !isNorm(all) {
			t.Fatalf("%+v, %+v: %v %d", l, path, all, err)
		}
		from := roll(length + 1)
		to := from + roll(length-from+1)
		part, err := Over(l, path, from, to)
		if err != api.OK || !isNorm(part) || !Within(part, all) {
			t.Fatalf("%+v, %+v, %d to %d: %v %d", l, path, from, to, part, err)
		}
		if repeatsEdge(path) {
			again++
			if Total(all) >= length || Total(part) > to-from {
				t.Fatalf("%+v, %+v, %d to %d: %v, %v", l, path, from, to, all, part)
			}
			continue
		}
		once++
		if Total(all) != length || Total(part) != to-from {
			t.Fatalf("%+v, %+v, %d to %d: %v, %v", l, path, from, to, all, part)
		}
	}
	if once < 2000 || again < 2000 {
		t.Errorf("%d and %d ways", once, again)
	}
}

// What is traversed up to a distance and from it on is what is traversed in all,
// and the way back traverses the same.
func TestOverInParts(t *testing.T) {
	for seed := range 10000 {
		roll := draw(uint64(seed) + 1<<44)
		l := drawn(roll)
		path := drawnWay(roll, l, 1+roll(10))
		length := lengthOf(l, path)
		n := roll(length + 1)
		all, err := Over(l, path, 0, length)
		first, firstErr := Over(l, path, 0, n)
		rest, restErr := Over(l, path, n, length)
		if err != api.OK || firstErr != api.OK || restErr != api.OK || !slices.Equal(Union(first, rest), all) {
			t.Fatalf("%+v, %+v, %d: %v %d, %v %d, in one %v %d", l, path, n, first, firstErr, rest, restErr, all, err)
		}
		if !repeatsEdge(path) && Meets(first, rest) {
			t.Fatalf("%+v, %+v, %d: %v and %v", l, path, n, first, rest)
		}
		home, err := Over(l, topo.Back(path), length-n, length)
		if err != api.OK || !slices.Equal(home, first) {
			t.Fatalf("%+v, %+v, %d: %v %d, want %v", l, path, n, home, err, first)
		}
	}
}

// R5: nothing is kept between calls, so lists and layouts do not affect one
// another.
func TestListsAreApart(t *testing.T) {
	for range 3 {
		expectNorm(t, spans(sp(1, 5, 9), sp(0, 0, 3)), sp(0, 0, 3), sp(1, 5, 9))
		expectNorm(t, spans(sp(1, 9, 12)), sp(1, 9, 12))
		expectMinus(t, spans(sp(0, 0, 9)), spans(sp(0, 3, 4)), sp(0, 0, 3), sp(0, 4, 9))
		expectBoth(t, spans(sp(0, 0, 9)), spans(sp(1, 3, 4)))
		expectOver(t, example(), over(0, 1), 99, 101, spans(sp(0, 99, 100), sp(1, 0, 1)), api.OK)
		expectOver(t, loop(), over(0, 1), 9, 11, spans(sp(0, 9, 10), sp(1, 0, 1)), api.OK)
	}
}
