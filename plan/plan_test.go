package plan

import (
	"math"
	"reflect"
	"slices"
	"testing"

	"lineside/api"
	"lineside/packet"
	"lineside/place"
	"lineside/span"
	"lineside/topo"
)

// The rules of the chapter written anew. What is said of layouts, positions and
// sets of spans, and whether a packet is valid, they ask the packages below.

func wantGroup(l api.Topo, id int) (api.Bal, bool) {
	for _, b := range l.Bals {
		if b.ID == id {
			return b, true
		}
	}
	return api.Bal{}, false
}

func wantRoute(l api.Topo, id int) (api.Route, bool) {
	for _, r := range l.Routes {
		if r.ID == id {
			return r, true
		}
	}
	return api.Route{}, false
}

// left returns how far it is from p to the end of its edge, the way that p faces.
func left(l api.Topo, p api.Pos) int {
	if p.Rev {
		return p.At
	}
	return l.Edges[p.Edge] - p.At
}

func mayFollow(l api.Topo, a, b api.Step) bool { return slices.Contains(topo.After(l, a), b) }

// edges returns which edges path is over, and whether it is over none twice.
func edges(path []api.Step) (map[int]bool, bool) {
	set := map[int]bool{}
	for _, s := range path {
		set[s.Edge] = true
	}
	return set, len(set) == len(path)
}

func wantMay(l api.Topo, m api.MA) bool {
	g, ok := wantGroup(l, m.Ref)
	if topo.Check(l) != 0 || !ok || len(m.Path) < 1 || len(m.Path) > 24 || len(m.Sects) < 1 || len(m.Sects) > 8 {
		return false
	}
	if m.Path[0].Edge != g.Edge || m.Path[0].Rev != m.Rev {
		return false
	}
	if _, once := edges(m.Path); !once {
		return false
	}
	length := left(l, api.Pos{Edge: g.Edge, At: g.At, Rev: m.Rev})
	for i := 1; i < len(m.Path); i++ {
		if !mayFollow(l, m.Path[i-1], m.Path[i]) {
			return false
		}
		length += l.Edges[m.Path[i].Edge]
	}
	for i, s := range m.Sects {
		if s.To <= 0 || s.To > length || s.Timer <= 0 || s.Timer > 1000 || i > 0 && s.To <= m.Sects[i-1].To {
			return false
		}
	}
	return m.Gap >= 0 && m.Gap <= length && m.Sects[len(m.Sects)-1].To+m.Gap <= length
}

func wantChain(l api.Topo, list []api.Lock, train int, s api.Step) []api.Lock {
	if topo.Check(l) != 0 {
		return nil
	}
	var chain []api.Lock
	var path []api.Step
	for range 8 {
		for _, k := range list {
			r, ok := wantRoute(l, k.Route)
			if k.Train != train || !ok || slices.Contains(chain, k) {
				continue
			}
			_, once := edges(slices.Concat(path, r.Path))
			first := len(chain) == 0 && slices.Contains(r.Path, s)
			if first || len(chain) > 0 && once && mayFollow(l, path[len(path)-1], r.Path[0]) {
				chain = append(chain, k)
				path = append(path, r.Path...)
				break
			}
		}
	}
	return chain
}

// wantSteps returns the steps that a walk from p over the distance n traverses. It
// has no error.
func wantSteps(l api.Topo, p api.Pos, n int) []api.Step {
	path := []api.Step{{Edge: p.Edge, Rev: p.Rev}}
	for end := left(l, p); end < n; end += l.Edges[path[len(path)-1].Edge] {
		path = append(path, topo.After(l, path[len(path)-1])...)
	}
	return path
}

func wantBuild(l api.Topo, list []api.Lock, train, ref int, rev bool, n int) (api.MA, api.Errno) {
	front, err := place.Locate(l, ref, rev, n)
	if err != 0 {
		return api.MA{}, err
	}
	chain := wantChain(l, list, train, api.Step{Edge: front.Edge, Rev: front.Rev})
	if len(chain) == 0 {
		return api.MA{}, 4
	}
	g, _ := wantGroup(l, ref)
	p := api.Pos{Edge: g.Edge, At: g.At, Rev: rev}
	m := api.MA{Ref: ref, Rev: rev, Path: wantSteps(l, p, n)}
	to := left(l, p) - l.Edges[g.Edge]
	for _, s := range m.Path {
		to += l.Edges[s.Edge]
	}
	ahead := false
	for i, k := range chain {
		r, _ := wantRoute(l, k.Route)
		for _, s := range r.Path {
			if i > 0 || ahead {
				m.Path = append(m.Path, s)
				to += l.Edges[s.Edge]
			}
			ahead = ahead || s.Edge == front.Edge
		}
		m.Sects = append(m.Sects, api.Sect{To: to, Timer: r.Timer})
		m.Gap = r.Gap
	}
	last := len(m.Sects) - 1
	m.Sects[last].To -= m.Gap
	if _, once := edges(m.Path); !once || len(m.Path) > 24 {
		return api.MA{}, 2
	}
	if m.Sects[last].To <= n || last > 0 && m.Sects[last].To <= m.Sects[last-1].To {
		return api.MA{}, 141
	}
	if m.Sects[0].To == 0 {
		m.Sects = m.Sects[1:]
	}
	return m, 0
}

func wantReach(m api.MA, age int) int {
	for n := len(m.Sects); n > 0; n-- {
		if !slices.ContainsFunc(m.Sects[:n], func(s api.Sect) bool { return s.Timer <= age }) {
			return m.Sects[n-1].To
		}
	}
	return 0
}

func wantCut(m api.MA, to int) api.MA {
	if to <= 0 {
		return api.MA{Ref: m.Ref, Rev: m.Rev, Path: m.Path}
	}
	for i, s := range m.Sects {
		if s.To >= to {
			sects := append(slices.Clone(m.Sects[:i]), api.Sect{To: to, Timer: s.Timer})
			return api.MA{Ref: m.Ref, Rev: m.Rev, Path: m.Path, Sects: sects}
		}
	}
	return m
}

// wantOver returns what path traverses between two distances, which are measured
// from p, a position on the edge of its first step.
func wantOver(l api.Topo, path []api.Step, p api.Pos, from, to int) []api.Span {
	var list []api.Span
	enter := left(l, p) - l.Edges[p.Edge]
	for _, s := range path {
		n := l.Edges[s.Edge]
		lo, hi := max(from-enter, 0), min(to-enter, n)
		if s.Rev {
			lo, hi = n-hi, n-lo
		}
		if lo < hi {
			list = append(list, api.Span{Edge: s.Edge, Lo: lo, Hi: hi})
		}
		enter += n
	}
	return span.Norm(list)
}

func wantExtent(l api.Topo, m api.MA, from, to int) ([]api.Span, api.Errno) {
	if !wantMay(l, m) || from < 0 || from > to || to > m.Sects[len(m.Sects)-1].To+m.Gap {
		return nil, 1
	}
	g, _ := wantGroup(l, m.Ref)
	return wantOver(l, m.Path, api.Pos{Edge: g.Edge, At: g.At, Rev: m.Rev}, from, to), 0
}

func wantStretch(l api.Topo, p api.Pos, n int) ([]api.Span, api.Errno) {
	if _, err := place.Walk(l, p, n); err != 0 {
		return nil, err
	}
	path := wantSteps(l, p, n)
	if len(path) > 40 {
		return nil, 1
	}
	return wantOver(l, path, p, 0, n), 0
}

func direct(rev bool) int {
	if rev {
		return 0
	}
	return 1
}

func wantPackets(l api.Topo, m api.MA) ([]api.Packet, api.Errno) {
	if !wantMay(l, m) {
		return nil, 1
	}
	x := told{dir: direct(m.Rev), scale: -1, linkDir: direct(m.Rev), end: []int{0}, danger: []int{0}, overlap: []int{0}}
	unit := 0
	for i, n := range []int{1, 10, 100} {
		if far := m.Sects[len(m.Sects)-1].To + m.Gap; x.scale < 0 && (far+n-1)/n <= 32766 {
			x.scale, x.linkScale, unit = i, i, n
		}
	}
	if x.scale < 0 {
		return nil, 7
	}
	last := 0
	for _, s := range m.Sects {
		if s.To/unit == last/unit {
			return nil, 7
		}
		x.sections = append(x.sections, section{s.To/unit - last/unit, 1, s.Timer, 0})
		last = s.To
	}
	if m.Gap/unit > 0 {
		x.danger = []int{1, m.Gap / unit, 0}
	}
	g, _ := wantGroup(l, m.Ref)
	enter := left(l, api.Pos{Edge: g.Edge, At: g.At, Rev: m.Rev})
	last = 0
	for _, s := range m.Path[1:] {
		i := slices.IndexFunc(l.Bals, func(b api.Bal) bool { return b.Edge == s.Edge })
		if i < 0 {
			return nil, 1
		}
		b := l.Bals[i]
		here := enter + l.Edges[s.Edge] - left(l, api.Pos{Edge: b.Edge, At: b.At, Rev: s.Rev})
		if (here-last)/unit > 32766 {
			return nil, 7
		}
		x.links = append(x.links, entry{(here - last) / unit, 1, b.ID >> 14, b.ID & 16383, direct(s.Rev), 2, 12})
		enter, last = enter+l.Edges[s.Edge], here
	}
	return x.packets(), 0
}

// wantLinks returns the path that the packet 5 with the numbers v tells.
func wantLinks(l api.Topo, path []api.Step, v []int) ([]api.Step, api.Errno) {
	i, more := 2, -1
	for n := 0; n == 0 || n <= more; n++ {
		if v[i+1] == 0 {
			return nil, 20
		}
		b, ok := wantGroup(l, v[i+2]*16384+v[i+3])
		if !ok {
			return nil, 4
		}
		last, next := path[len(path)-1], api.Step{Edge: b.Edge, Rev: v[i+4] == 0}
		if b.Edge != last.Edge {
			if !mayFollow(l, last, next) {
				return nil, 141
			}
			path = append(path, next)
			if _, once := edges(path); !once || len(path) > 24 {
				return nil, 2
			}
		}
		i += 7
		if n == 0 {
			more = v[i]
			i++
		}
	}
	return path, 0
}

func wantRead(l api.Topo, ref int, rev bool, list []api.Packet) (api.MA, api.Errno) {
	if topo.Check(l) != 0 {
		return api.MA{}, 1
	}
	g, ok := wantGroup(l, ref)
	if !ok {
		return api.MA{}, 4
	}
	for i, p := range list {
		if _, err := packet.Items(p); err != 0 || i == 0 && p.ID != 15 {
			return api.MA{}, 50
		}
	}
	switch {
	case len(list) == 0:
		return api.MA{}, 50
	case list[0].V[0] != direct(rev):
		return api.MA{}, 20
	case list[0].V[4] > 7:
		return api.MA{}, 2
	}
	m := api.MA{Ref: ref, Rev: rev, Path: []api.Step{{Edge: g.Edge, Rev: rev}}}
	unit, sum, v := []int{1, 10, 100}[list[0].V[1]], 0, list[0].V[5:]
	for range list[0].V[4] + 1 {
		if v[1] == 0 || v[2] == 0 || v[2] > 1000 || v[0] == 0 {
			return api.MA{}, 20
		}
		if v[0] == 32767 {
			return api.MA{}, 7
		}
		sum += v[0]
		m.Sects = append(m.Sects, api.Sect{To: sum * unit, Timer: v[2]})
		v = v[4:]
	}
	v = v[1+2*v[0]:]
	if v[0] == 1 && v[1] == 32767 {
		return api.MA{}, 7
	}
	m.Gap = v[0] * v[1] * unit
	if i := slices.IndexFunc(list, func(p api.Packet) bool { return p.ID == 5 }); i > 0 {
		path, err := wantLinks(l, m.Path, list[i].V)
		if err != 0 {
			return api.MA{}, err
		}
		m.Path = path
	}
	if !wantMay(l, m) {
		return api.MA{}, 7
	}
	return m, 0
}

// Calls, their results, and what is handed in.

// given is all that a call may be handed beside numbers.
type given struct {
	l    api.Topo
	list []api.Lock
	m    api.MA
	p    []api.Packet
}

// answer is all that a call may return.
type answer struct {
	m     api.MA
	locks []api.Lock
	spans []api.Span
	p     []api.Packet
	n     int
	ok    bool
	err   api.Errno
}

func sameMA(a, b api.MA) bool {
	return a.Ref == b.Ref && a.Rev == b.Rev && slices.Equal(a.Path, b.Path) && slices.Equal(a.Sects, b.Sects) && a.Gap == b.Gap
}

func samePacket(a, b api.Packet) bool { return a.ID == b.ID && slices.Equal(a.V, b.V) }

func same(a, b answer) bool {
	return sameMA(a.m, b.m) && slices.Equal(a.locks, b.locks) && slices.Equal(a.spans, b.spans) &&
		slices.EqualFunc(a.p, b.p, samePacket) && a.n == b.n && a.ok == b.ok && a.err == b.err
}

// roomy returns a copy of list with room behind it, which holds something.
func roomy[T any](list []T, behind T) []T {
	return slices.Clip(append(slices.Clone(list), behind, behind))[:len(list)]
}

// full returns list with the room behind it.
func full[T any](list []T) []T { return list[:cap(list)] }

func roomyGiven(g given) given {
	g.l.Edges = roomy(g.l.Edges, 77)
	g.l.Joints = roomy(g.l.Joints, joined(77, 78, 79, 80))
	g.l.Bals = roomy(g.l.Bals, api.Bal{ID: 77, Edge: 78, At: 79})
	g.l.Routes = roomy(g.l.Routes, api.Route{ID: 77, Gap: 78, Timer: 79})
	for i := range full(g.l.Routes) {
		full(g.l.Routes)[i].Path = roomy(full(g.l.Routes)[i].Path, back(77))
	}
	g.list = roomy(g.list, lk(77, 78))
	g.m.Path, g.m.Sects = roomy(g.m.Path, back(77)), roomy(g.m.Sects, sect(77, 78))
	g.p = roomy(g.p, api.Packet{ID: 77})
	for i := range full(g.p) {
		full(g.p)[i].V = roomy(full(g.p)[i].V, 77)
	}
	return g
}

// fullGiven returns a copy of g with the room behind its lists.
func fullGiven(g given) given {
	g.l.Edges, g.l.Joints = slices.Clone(full(g.l.Edges)), slices.Clone(full(g.l.Joints))
	g.l.Bals, g.l.Routes = slices.Clone(full(g.l.Bals)), slices.Clone(full(g.l.Routes))
	for i, r := range g.l.Routes {
		g.l.Routes[i].Path = slices.Clone(full(r.Path))
	}
	g.list = slices.Clone(full(g.list))
	g.m.Path, g.m.Sects = slices.Clone(full(g.m.Path)), slices.Clone(full(g.m.Sects))
	g.p = slices.Clone(full(g.p))
	for i, p := range g.p {
		g.p[i].V = slices.Clone(full(p.V))
	}
	return g
}

// spoil writes over list and the room behind it.
func spoil[T any](list []T, by T) {
	for i := range full(list) {
		full(list)[i] = by
	}
}

func spoilMA(m api.MA) {
	spoil(m.Path, back(-7))
	spoil(m.Sects, sect(-7, -7))
}

// spoilPackets writes over each packet of list, and returns whether that changes
// another one.
func spoilPackets(list []api.Packet) bool {
	shared := false
	for i, p := range list {
		rest := slices.Clone(list[i+1:])
		for j, q := range rest {
			rest[j].V = slices.Clone(q.V)
		}
		spoil(p.V, -7)
		shared = shared || !slices.EqualFunc(rest, list[i+1:], samePacket)
	}
	spoil(list, api.Packet{ID: -7})
	return shared
}

// expect makes a call twice. It checks that the result is the wanted one both times,
// that the call changes nothing of what it is given, and that the result shares no
// memory with it; numbers are the other arguments.
func expect(t *testing.T, what string, g given, call func(g given) answer, want answer, numbers ...any) {
	t.Helper()
	h := roomyGiven(g)
	before := fullGiven(h)
	first := call(h)
	if !same(first, want) {
		t.Fatalf("%s of %+v, %+v: %+v, want %+v", what, g, numbers, first, want)
	}
	spoil(first.locks, lk(-7, -7))
	spoil(first.spans, sp(-7, -7, -7))
	spoilMA(first.m)
	if spoilPackets(first.p) || !reflect.DeepEqual(fullGiven(h), before) {
		t.Fatalf("%s changes what it is given, or shares memory: %+v, before %+v, %+v", what, fullGiven(h), g, numbers)
	}
	second := call(h)
	for _, r := range h.l.Routes {
		spoil(r.Path, back(-8))
	}
	spoil(h.list, lk(-8, -8))
	spoilMA(h.m)
	spoilPackets(h.p)
	if !same(second, want) {
		t.Fatalf("%s of %+v, %+v, once more: %+v, want %+v", what, g, numbers, second, want)
	}
}

// agree checks that the chapter written anew says of a call what the test does.
func agree(t *testing.T, what string, g given, chapter, want answer, numbers ...any) {
	t.Helper()
	if !same(chapter, want) {
		t.Fatalf("the chapter says %+v of %s of %+v, %+v, want %+v", chapter, what, g, numbers, want)
	}
}

func expectMay(t *testing.T, l api.Topo, m api.MA, want bool) {
	t.Helper()
	g := given{l: l, m: m}
	agree(t, "May", g, answer{ok: wantMay(l, m)}, answer{ok: want})
	expect(t, "May", g, func(g given) answer { return answer{ok: May(g.l, g.m)} }, answer{ok: want})
}

func expectChain(t *testing.T, l api.Topo, list []api.Lock, train int, s api.Step, want ...api.Lock) {
	t.Helper()
	g := given{l: l, list: list}
	agree(t, "Chain", g, answer{locks: wantChain(l, list, train, s)}, answer{locks: want}, train, s)
	expect(t, "Chain", g, func(g given) answer {
		return answer{locks: Chain(g.l, g.list, train, s)}
	}, answer{locks: want}, train, s)
}

func expectBuild(t *testing.T, l api.Topo, list []api.Lock, train, ref int, rev bool, n int, want api.MA, wantErr api.Errno) {
	t.Helper()
	g := given{l: l, list: list}
	m, err := wantBuild(l, list, train, ref, rev, n)
	agree(t, "Build", g, answer{m: m, err: err}, answer{m: want, err: wantErr}, train, ref, rev, n)
	expect(t, "Build", g, func(g given) answer {
		m, err := Build(g.l, g.list, train, ref, rev, n)
		return answer{m: m, err: err}
	}, answer{m: want, err: wantErr}, train, ref, rev, n)
}

// expectBuildFails checks that Build has an error, and nothing beside it.
func expectBuildFails(t *testing.T, l api.Topo, list []api.Lock, train, ref int, rev bool, n int, want api.Errno) {
	t.Helper()
	expectBuild(t, l, list, train, ref, rev, n, api.MA{}, want)
}

func expectReach(t *testing.T, m api.MA, age, want int) {
	t.Helper()
	agree(t, "Reach", given{m: m}, answer{n: wantReach(m, age)}, answer{n: want}, age)
	expect(t, "Reach", given{m: m}, func(g given) answer { return answer{n: Reach(g.m, age)} }, answer{n: want}, age)
}

func expectCut(t *testing.T, m api.MA, to int, want api.MA) {
	t.Helper()
	agree(t, "Cut", given{m: m}, answer{m: wantCut(m, to)}, answer{m: want}, to)
	expect(t, "Cut", given{m: m}, func(g given) answer { return answer{m: Cut(g.m, to)} }, answer{m: want}, to)
}

func expectExtent(t *testing.T, l api.Topo, m api.MA, from, to int, want []api.Span, wantErr api.Errno) {
	t.Helper()
	g := given{l: l, m: m}
	list, err := wantExtent(l, m, from, to)
	agree(t, "Extent", g, answer{spans: list, err: err}, answer{spans: want, err: wantErr}, from, to)
	expect(t, "Extent", g, func(g given) answer {
		list, err := Extent(g.l, g.m, from, to)
		return answer{spans: list, err: err}
	}, answer{spans: want, err: wantErr}, from, to)
}

func expectExtentFails(t *testing.T, l api.Topo, m api.MA, from, to int) {
	t.Helper()
	expectExtent(t, l, m, from, to, nil, api.ErrArg)
}

func expectStretch(t *testing.T, l api.Topo, p api.Pos, n int, want []api.Span, wantErr api.Errno) {
	t.Helper()
	list, err := wantStretch(l, p, n)
	agree(t, "Stretch", given{l: l}, answer{spans: list, err: err}, answer{spans: want, err: wantErr}, p, n)
	expect(t, "Stretch", given{l: l}, func(g given) answer {
		list, err := Stretch(g.l, p, n)
		return answer{spans: list, err: err}
	}, answer{spans: want, err: wantErr}, p, n)
}

// Steps, layouts, locks and authorities to begin with.

// lk and locks write locks, sect and sects sections, sp and spans spans.
func lk(route, train int) api.Lock { return api.Lock{Route: route, Train: train, No: 10*route + train} }

func locks(train int, routes ...int) []api.Lock {
	var list []api.Lock
	for _, n := range routes {
		list = append(list, lk(n, train))
	}
	return list
}

func sect(to, timer int) api.Sect { return api.Sect{To: to, Timer: timer} }

func sects(list ...api.Sect) []api.Sect { return list }

func sp(edge, lo, hi int) api.Span { return api.Span{Edge: edge, Lo: lo, Hi: hi} }

func spans(list ...api.Span) []api.Span { return list }

// on and back write steps, over and home paths of steps without and with Rev, up
// and down the edges from one to another one.
func on(edge int) api.Step { return api.Step{Edge: edge} }

func back(edge int) api.Step { return api.Step{Edge: edge, Rev: true} }

func over(edges ...int) []api.Step {
	var path []api.Step
	for _, n := range edges {
		path = append(path, on(n))
	}
	return path
}

func home(edges ...int) []api.Step {
	var path []api.Step
	for _, n := range edges {
		path = append(path, back(n))
	}
	return path
}

func up(first, last int) []api.Step {
	var path []api.Step
	for n := first; n <= last; n++ {
		path = append(path, on(n))
	}
	return path
}

func down(first, last int) []api.Step { return topo.Back(up(last, first)) }

// fwd and rev write authorities.
func fwd(ref, gap int, path []api.Step, list ...api.Sect) api.MA {
	return api.MA{Ref: ref, Path: path, Sects: list, Gap: gap}
}

func rev(ref, gap int, path []api.Step, list ...api.Sect) api.MA {
	return api.MA{Ref: ref, Rev: true, Path: path, Sects: list, Gap: gap}
}

// joined writes a joint: which edge, and At which of its ends, twice.
func joined(a, atA, b, atB int) api.Joint {
	return api.Joint{A: api.End{Edge: a, At: atA}, B: api.End{Edge: b, At: atB}}
}

// laid returns edges of the lengths lens, one behind the other, with a balise group
// on each of them, and the routes 1, 2 and so on over paths, with Timers of 10, 20
// and so on.
func laid(lens []int, paths ...[]api.Step) api.Topo {
	l := api.Topo{Edges: lens}
	for i, n := range lens {
		l.Bals = append(l.Bals, api.Bal{ID: 50 + i, Edge: i, At: n / 2})
		if i > 0 {
			l.Joints = append(l.Joints, joined(i-1, 1, i, 0))
		}
	}
	for i, path := range paths {
		l.Routes = append(l.Routes, api.Route{ID: i + 1, Path: path, Timer: 10 * (i + 1)})
	}
	return l
}

// ring returns what laid returns, with the last edge joined to the first one.
func ring(lens []int, paths ...[]api.Step) api.Topo {
	l := laid(lens, paths...)
	l.Joints = append(l.Joints, joined(len(lens)-1, 1, 0, 0))
	return l
}

// example returns the layout of the chapter's example, and its locks.
func example() (api.Topo, []api.Lock) {
	l := laid([]int{100, 200, 300}, over(0, 1), over(1, 2))
	l.Bals = []api.Bal{{ID: 7, Edge: 0, At: 10}, {ID: 8, Edge: 1, At: 20}, {ID: 9, Edge: 2, At: 30}}
	l.Routes[0].Timer = 30
	l.Routes[1].Gap, l.Routes[1].Timer = 50, 20
	return l, locks(5, 1, 2)
}

// line returns edges of the lengths 100, 200, 300 and 400, with the groups 50 to 53
// on the middle of each of them, and routes in both directions with Gaps.
func line() api.Topo {
	l := laid([]int{100, 200, 300, 400}, over(0, 1), over(2), over(3), home(3, 2), home(1), home(0), over(0, 1, 2))
	l.Routes[1].Gap, l.Routes[2].Gap, l.Routes[3].Gap, l.Routes[5].Gap = 30, 100, 40, 20
	return l
}

// long returns n edges of the length 4 in a line, without routes.
func long(n int) api.Topo { return laid(slices.Repeat([]int{4}, n)) }

// invalid returns layouts that are not valid. Each has the edges, groups and routes
// of line, or more.
func invalid() []api.Topo {
	spoil := []func(l *api.Topo){
		func(l *api.Topo) { l.Edges = append(l.Edges, slices.Repeat([]int{5}, 37)...) },
		func(l *api.Topo) { l.Edges = append(l.Edges, 0) },
		func(l *api.Topo) { l.Edges = append(l.Edges, -5) },
		func(l *api.Topo) { l.Edges = append(l.Edges, 1000001) },
		func(l *api.Topo) { l.Joints = slices.Repeat(l.Joints, 27) },
		func(l *api.Topo) { l.Joints = append(l.Joints, joined(0, 0, 0, 0)) },
		func(l *api.Topo) { l.Joints = append(l.Joints, joined(1, 1, 4, 0)) },
		func(l *api.Topo) { l.Joints = append(l.Joints, joined(1, 0, 0, 1)) },
		func(l *api.Topo) { l.Joints = append(l.Joints, joined(0, 2, 1, 1)) },
		func(l *api.Topo) { l.Bals = append(l.Bals, api.Bal{ID: 50}) },
		func(l *api.Topo) { l.Bals = append(l.Bals, api.Bal{ID: 10, At: 101}) },
		func(l *api.Topo) { l.Bals = append(l.Bals, api.Bal{ID: -1}) },
		func(l *api.Topo) { l.Bals = append(l.Bals, api.Bal{ID: 1<<24 - 1}) },
		func(l *api.Topo) { l.Edges = append(l.Edges, 5); l.Routes[0].Path = over(4) },
		func(l *api.Topo) { l.Routes = slices.Repeat(l.Routes, 5) },
		func(l *api.Topo) { l.Routes = append(l.Routes, l.Routes[1]) },
		func(l *api.Topo) { l.Routes = append(l.Routes, api.Route{ID: 8, Timer: 1}) },
		func(l *api.Topo) { l.Routes = append(l.Routes, api.Route{Path: over(0), Timer: 1}) },
		func(l *api.Topo) { l.Routes[1].Gap = 300 },
		func(l *api.Topo) { l.Routes[1].Gap = -1 },
		func(l *api.Topo) { l.Routes[0].Timer = 0 },
		func(l *api.Topo) { l.Routes[6].Timer = 1001 },
		func(l *api.Topo) { l.Routes[0].Path[1].Rev = true },
		func(l *api.Topo) { l.Routes[6].Path = nil },
	}
	var list []api.Topo
	for _, f := range spoil {
		l := line()
		f(&l)
		list = append(list, l)
	}
	return list
}

// outside returns numbers below least and above most. Cut to 32 bits, some of them
// would lie between.
func outside(least, most int) []int {
	return []int{
		math.MinInt, math.MinInt + 1, -1 << 62, -1<<42 + most, -1 << 40, -1 << 32, -most - 1, least - 2, least - 1,
		most + 1, most + 2, 2*most + 2, 1<<32 + most, 1<<42 + most, 1 << 62, math.MaxInt - 1, math.MaxInt,
	}
}

// orders returns list in each order.
func orders[T any](list []T) [][]T {
	if len(list) == 0 {
		return [][]T{nil}
	}
	var all [][]T
	for i, first := range list {
		rest := slices.Concat(list[:i], list[i+1:])
		for _, order := range orders(rest) {
			all = append(all, append([]T{first}, order...))
		}
	}
	return all
}

// The limits and errors of the chapter are those of api.

func TestLimits(t *testing.T) {
	have := []int{api.MaxWay, api.MaxSects, api.MaxTimer, api.MaxScaled}
	if want := []int{24, 8, 1000, 32766}; !slices.Equal(have, want) {
		t.Errorf("%v, want %v", have, want)
	}
	errs := []api.Errno{api.OK, api.ErrArg, api.ErrLong, api.ErrNone, api.ErrRange, api.ErrValue, api.ErrPacket, api.ErrFork, api.ErrEnd}
	if want := []api.Errno{0, 1, 2, 4, 7, 20, 50, 140, 141}; !slices.Equal(errs, want) {
		t.Errorf("%v, want %v", errs, want)
	}
}

// The chapter's example.

func TestExample(t *testing.T) {
	l, list := example()
	expectBuild(t, l, list, 5, 7, false, 40, fwd(7, 0, over(0, 1), sect(290, 30)), api.OK)
	expectChain(t, l, list, 5, on(0), list[0])
}

// P17.1: May

// valid returns authorities on line, in both directions.
func valid() []api.MA {
	return []api.MA{
		fwd(50, 0, over(0), sect(50, 1)),
		fwd(50, 20, over(0, 1, 2), sect(10, 5), sect(200, 1000), sect(530, 1)),
		fwd(51, 0, up(1, 3), sect(1, 10), sect(2, 10), sect(3, 9), sect(4, 8)),
		rev(53, 0, home(3), sect(200, 7)),
		rev(53, 100, down(3, 0), sect(100, 1000), sect(300, 20), sect(700, 30)),
		rev(52, 1, down(2, 1), sect(349, 1)),
	}
}

// far returns where the path of an authority on line ends, from its group on.
func far(m api.MA) int {
	n := 0
	for _, s := range m.Path {
		n += 100 * (s.Edge + 1)
	}
	return n - 50*(m.Path[0].Edge+1)
}

func TestMay(t *testing.T) {
	for _, m := range valid() {
		expectMay(t, line(), m, true)
	}
	l, list := example()
	m, _ := Build(l, list, 5, 7, false, 40)
	expectMay(t, l, m, true)
	expectMay(t, l, api.MA{}, false)
	expectMay(t, api.Topo{}, api.MA{}, false)
	expectMay(t, api.Topo{}, m, false)
}

func TestMayOfLayouts(t *testing.T) {
	for _, l := range invalid() {
		for _, m := range valid() {
			expectMay(t, l, m, false)
		}
	}
}

func TestMayOfRefs(t *testing.T) {
	for _, m := range valid() {
		for _, ref := range append(outside(50, 53), 0, 1, 7, 49, 54) {
			m.Ref = ref
			expectMay(t, line(), m, false)
		}
	}
	l := line()
	l.Bals = append(l.Bals, api.Bal{ID: 0, Edge: 1}, api.Bal{ID: 1<<24 - 2, Edge: 1, At: 200})
	expectMay(t, l, fwd(0, 0, over(1), sect(200, 1)), true)
	expectMay(t, l, rev(1<<24-2, 0, home(1), sect(200, 1)), true)
	expectMay(t, l, rev(0, 0, home(1, 0), sect(100, 1)), true)
	expectMay(t, l, rev(0, 0, home(1), sect(1, 1)), false)
	expectMay(t, l, fwd(1<<24-2, 0, over(1), sect(1, 1)), false)
}

func TestMayOfTheFirstStep(t *testing.T) {
	for _, m := range valid() {
		for edge := -1; edge < 6; edge++ {
			for _, s := range []api.Step{on(edge), back(edge)} {
				other := m
				other.Path = append([]api.Step{s}, m.Path[1:]...)
				expectMay(t, line(), other, s == m.Path[0])
				other.Path = append([]api.Step{s}, m.Path...)
				expectMay(t, line(), other, false)
			}
		}
		other := m
		other.Rev = !m.Rev
		expectMay(t, line(), other, false)
		other.Path = topo.Back(m.Path)
		expectMay(t, line(), other, len(m.Path) == 1)
	}
	expectMay(t, line(), fwd(51, 0, over(0, 1), sect(1, 1)), false)
	expectMay(t, line(), fwd(51, 0, home(1), sect(1, 1)), false)
	expectMay(t, line(), rev(51, 0, over(1), sect(1, 1)), false)
	expectMay(t, line(), fwd(51, 0, over(2), sect(1, 1)), false)
}

func TestMayOfPathsThatAreNoWay(t *testing.T) {
	for _, path := range [][]api.Step{
		over(1, 3), over(1, 0), over(1, 1), over(1, 2, 2), over(1, 2, 4), over(1, -1), {on(1), back(2)}, {on(1), back(0)},
		{on(1), back(1)}, over(1, 2, 3, 0), over(1, 2, math.MaxInt), over(1, math.MinInt), over(1, 1<<32+2),
	} {
		expectMay(t, line(), fwd(51, 0, path, sect(1, 1)), false)
	}
	for _, path := range [][]api.Step{home(2, 0), home(2, 3), {back(2), on(1)}, {back(2), back(1), on(0)}, home(2, 1, 0, -1), {back(2), on(2)}} {
		expectMay(t, line(), rev(52, 0, path, sect(1, 1)), false)
	}
}

func TestMayOfAnEdgeTwice(t *testing.T) {
	l := ring([]int{10, 20, 30})
	for n := 1; n <= 8; n++ {
		path := slices.Repeat(over(1, 2, 0), 3)[:n]
		expectMay(t, l, fwd(51, 0, path, sect(1, 1)), n <= 3)
		expectMay(t, l, rev(51, 0, slices.Repeat(home(1, 0, 2), 3)[:n], sect(1, 1)), n <= 3)
	}
	// Edge 1 leads back to edge 0, and to itself.
	l = laid([]int{10, 20, 30})
	l.Joints = append(l.Joints, joined(1, 1, 0, 1), joined(2, 1, 2, 0))
	for _, path := range [][]api.Step{{on(0), on(1), back(0)}, {on(0), on(1), on(2), on(2)}, {on(0), back(1), back(0)}} {
		if _, err := topo.Length(l, path); err != api.OK {
			t.Fatalf("%v: %d", path, err)
		}
		expectMay(t, l, fwd(50, 0, path, sect(1, 1)), false)
		expectMay(t, l, fwd(50, 0, path[:len(path)-1], sect(1, 1)), true)
	}
}

func TestMayOfNumbersOfSteps(t *testing.T) {
	l := long(40)
	for n := range 41 {
		expectMay(t, l, fwd(50, 0, up(0, n-1), sect(2, 1)), n >= 1 && n <= 24)
		expectMay(t, l, rev(89, 0, down(39, 40-n), sect(2, 1)), n >= 1 && n <= 24)
	}
	expectMay(t, l, fwd(50, 0, make([]api.Step, 1<<16), sect(2, 1)), false)
	expectMay(t, line(), fwd(50, 0, nil, sect(1, 1)), false)
}

func TestMayOfNumbersOfSections(t *testing.T) {
	for _, m := range valid() {
		m.Gap = 0
		for n := range 12 {
			m.Sects = nil
			for i := range n {
				m.Sects = append(m.Sects, sect(i+1, 1000-i))
			}
			expectMay(t, line(), m, n >= 1 && n <= 8)
		}
	}
	many := make([]api.Sect, 1<<12)
	for i := range many {
		many[i] = sect(i+1, 1)
	}
	expectMay(t, laid([]int{1000000}), fwd(50, 0, over(0), many...), false)
	expectMay(t, laid([]int{1000000}), fwd(50, 0, over(0), many[:8]...), true)
}

func TestMayOfTos(t *testing.T) {
	for _, m := range []api.MA{fwd(50, 0, up(0, 3)), rev(53, 0, down(3, 0))} {
		for _, to := range []int{1, 2, 10, 49, 50, 51, 799, 800} {
			m.Sects = sects(sect(to, 1))
			expectMay(t, line(), m, true)
			m.Sects = sects(sect(to, 1), sect(to, 1))
			expectMay(t, line(), m, false)
			m.Sects = sects(sect(to, 1), sect(to-1, 1))
			expectMay(t, line(), m, false)
			m.Sects = sects(sect(to-1, 1), sect(to, 1))
			expectMay(t, line(), m, to > 1)
		}
		for _, to := range append(outside(1, 950), 0, -1) {
			m.Sects = sects(sect(to, 1))
			expectMay(t, line(), m, false)
			m.Sects = sects(sect(to, 1), sect(50, 1))
			expectMay(t, line(), m, false)
			m.Sects = sects(sect(50, 1), sect(to, 1), sect(60, 1))
			expectMay(t, line(), m, false)
		}
	}
}

// All lists of three Tos from -1 to 5.
func TestMayOfThreeTos(t *testing.T) {
	count := 0
	for n := range 7 * 7 * 7 {
		a, b, c := n%7-1, n/7%7-1, n/49-1
		want := 0 < a && a < b && b < c
		expectMay(t, line(), fwd(50, 0, over(0), sect(a, 1), sect(b, 1), sect(c, 1)), want)
		if want {
			count++
		}
	}
	if count != 10 {
		t.Errorf("%d", count)
	}
}

func TestMayOfTimers(t *testing.T) {
	timers := append(outside(1, 1000), 0, 1, 2, 500, 999, 1000, 1001, 1023, 1<<32+1)
	for _, m := range valid() {
		for i, s := range m.Sects {
			for _, timer := range timers {
				m.Sects = slices.Clone(m.Sects)
				m.Sects[i].Timer = timer
				expectMay(t, line(), m, timer >= 1 && timer <= 1000)
			}
			m.Sects[i] = s
		}
	}
}

func TestMayOfGaps(t *testing.T) {
	for _, m := range valid() {
		room := far(m) - m.Sects[len(m.Sects)-1].To
		for _, gap := range []int{0, 1, room - 1, room} {
			m.Gap = gap
			expectMay(t, line(), m, gap >= 0 && gap <= room)
		}
		for _, gap := range outside(0, room) {
			m.Gap = gap
			expectMay(t, line(), m, false)
		}
	}
}

// The last To and the Gap together, up to the end of the path and beyond it.
func TestMayUpToTheEndOfThePath(t *testing.T) {
	paths := []api.MA{}
	for i := range 4 {
		for j := i; j < 4; j++ {
			paths = append(paths, fwd(50+i, 0, up(i, j)), rev(50+j, 0, down(j, i)))
		}
	}
	for _, m := range paths {
		for _, to := range []int{1, far(m) / 2, far(m) - 1, far(m)} {
			for _, more := range []int{-1, 0, 1, 2} {
				m.Sects, m.Gap = sects(sect(to, 9)), far(m)-to+more
				expectMay(t, line(), m, more <= 0 && m.Gap >= 0)
			}
		}
		m.Sects, m.Gap = sects(sect(far(m)+1, 9)), 0
		expectMay(t, line(), m, false)
		m.Sects, m.Gap = sects(sect(far(m)+1, 9)), -1
		expectMay(t, line(), m, false)
		m.Sects, m.Gap = sects(sect(1, 9)), math.MaxInt
		expectMay(t, line(), m, false)
		m.Sects, m.Gap = sects(sect(math.MaxInt, 9)), math.MaxInt
		expectMay(t, line(), m, false)
		m.Sects, m.Gap = sects(sect(math.MaxInt, 9)), 1
		expectMay(t, line(), m, false)
	}
}

// The group at both ends of its edge.
func TestMayFromTheEndsOfEdges(t *testing.T) {
	for at := range 11 {
		l := laid([]int{10, 10})
		l.Bals[0].At, l.Bals[1].At = at, at
		for to := 1; to <= 22; to++ {
			expectMay(t, l, fwd(50, 0, over(0, 1), sect(to, 1)), to <= 20-at)
			expectMay(t, l, fwd(51, 0, over(1), sect(to, 1)), to <= 10-at)
			expectMay(t, l, rev(51, 0, home(1, 0), sect(to, 1)), to <= 10+at)
			expectMay(t, l, rev(50, 0, home(0), sect(to, 1)), to <= at)
		}
	}
}

func TestMayOfTheLongestPath(t *testing.T) {
	l := laid(slices.Repeat([]int{1000000}, 40))
	l.Bals[0].At = 0
	for _, more := range []int{-1, 0, 1} {
		expectMay(t, l, fwd(50, 0, up(0, 23), sect(24000000+more, 1)), more <= 0)
		expectMay(t, l, fwd(50, 23999999+more, up(0, 23), sect(1, 1)), more <= 0)
		expectMay(t, l, rev(89, 500000+more, down(39, 16), sect(23000000, 1)), more <= 0)
	}
}

// P17.1: Chain

// tracks returns edges in a line with routes over them that may follow one another
// in several ways.
func tracks() api.Topo {
	return laid([]int{3, 4, 5, 6, 7}, over(0, 1), over(1, 2), over(2), over(3, 4), over(4), home(2, 1), over(2, 3), home(4, 3))
}

func TestChain(t *testing.T) {
	l := tracks()
	list := locks(5, 1, 3, 4)
	for edge, want := range [][]int{{1, 3, 4}, {1, 3, 4}, {3, 4}, {4}, {4}} {
		expectChain(t, l, list, 5, on(edge), locks(5, want...)...)
		expectChain(t, l, list, 5, back(edge))
		expectChain(t, l, list, 6, on(edge))
	}
	list = locks(5, 6, 8)
	for edge, want := range [][]int{nil, {6}, {6}, {8, 6}, {8, 6}} {
		expectChain(t, l, list, 5, back(edge), locks(5, want...)...)
		expectChain(t, l, list, 5, on(edge))
	}
}

// The first lock is the first one of the list, and so is each next one.
func TestChainInTheOrderOfTheList(t *testing.T) {
	l := tracks()
	expectChain(t, l, locks(5, 1, 2), 5, on(1), locks(5, 1)...)
	expectChain(t, l, locks(5, 2, 1), 5, on(1), locks(5, 2)...)
	expectChain(t, l, locks(5, 1, 2, 3, 4, 5), 5, on(1), locks(5, 1, 3, 4)...)
	expectChain(t, l, locks(5, 5, 4, 3, 2, 1), 5, on(1), locks(5, 2, 4)...)
	expectChain(t, l, locks(5, 1, 3, 7, 4, 5), 5, on(0), locks(5, 1, 3, 4)...)
	expectChain(t, l, locks(5, 1, 7, 3, 4, 5), 5, on(0), locks(5, 1, 7, 5)...)
	expectChain(t, l, locks(5, 4, 5, 7, 1), 5, on(0), locks(5, 1, 7, 5)...)
	expectChain(t, l, locks(5, 4, 5, 7, 1), 5, on(4), locks(5, 4)...)
	expectChain(t, l, locks(5, 5, 4, 7, 1), 5, on(4), locks(5, 5)...)
	expectChain(t, l, locks(5, 5, 4, 7, 1), 5, on(3), locks(5, 4)...)
}

// All orders of six locks, from each step.
func TestChainInEveryOrder(t *testing.T) {
	l, lengths := tracks(), map[int]int{}
	for _, list := range orders(locks(5, 1, 2, 3, 4, 7, 8)) {
		for edge := range 5 {
			for _, s := range []api.Step{on(edge), back(edge)} {
				want := wantChain(l, list, 5, s)
				if have := Chain(l, list, 5, s); !slices.Equal(have, want) {
					t.Fatalf("%v, %v: %v, want %v", list, s, have, want)
				}
				lengths[len(want)]++
			}
		}
		if list[0].Route == 7 {
			expectChain(t, l, list, 5, on(0), locks(5, 1, 7)...)
		}
	}
	if len(lengths) != 4 || lengths[3] < 500 {
		t.Errorf("%v", lengths)
	}
}

// Locks of other trains in every place.
func TestChainOfSeveralTrains(t *testing.T) {
	l := tracks()
	own := locks(5, 3, 1, 4)
	for n := range 16 {
		var list []api.Lock
		for i, k := range append(own, lk(0, 5)) {
			if n>>i&1 == 1 {
				list = append(list, lk(1, 6), lk(2, 4), lk(3, 6), lk(4, -5))
			}
			list = append(list, k)
		}
		expectChain(t, l, list, 5, on(0), locks(5, 1, 3, 4)...)
		if n > 0 {
			expectChain(t, l, list, 6, on(0), locks(6, 1, 3)...)
			expectChain(t, l, list, 4, on(2), locks(4, 2)...)
			expectChain(t, l, list, -5, on(4), locks(-5, 4)...)
		}
		expectChain(t, l, list, 7, on(0))
	}
	for _, train := range []int{0, 1<<24 - 1, 1 << 24, -1, math.MinInt, math.MaxInt} {
		list := slices.Concat(locks(5, 1), locks(train, 1, 3))
		expectChain(t, l, list, train, on(0), locks(train, 1, 3)...)
	}
}

func TestChainOfRoutesThatTheLayoutDoesNotHave(t *testing.T) {
	l := tracks()
	for _, route := range append(outside(1, 8), 50, 51, 1<<32+1) {
		expectChain(t, l, locks(5, route), 5, on(0))
		expectChain(t, l, locks(5, route, 1, route, 3, route, 4, route), 5, on(0), locks(5, 1, 3, 4)...)
		expectChain(t, l, locks(5, 4, route, 3, route, 1), 5, on(0), locks(5, 1, 3, 4)...)
	}
}

func TestChainWithoutAFirstLock(t *testing.T) {
	l := tracks()
	expectChain(t, l, nil, 5, on(0))
	expectChain(t, l, []api.Lock{}, 5, on(0))
	expectChain(t, l, locks(5, 3, 4), 5, on(1))
	expectChain(t, l, locks(5, 3, 4), 5, back(2))
	expectChain(t, l, locks(5, 6, 8), 5, on(2))
	for _, edge := range append(outside(0, 4), 5, 50, 1<<32) {
		expectChain(t, l, locks(5, 1, 2, 3, 4), 5, on(edge))
		expectChain(t, l, locks(5, 1, 2, 3, 4, 8), 5, back(edge))
	}
}

// A chain has a gap where no lock follows.
func TestChainUpToAGap(t *testing.T) {
	l := tracks()
	expectChain(t, l, locks(5, 1, 4), 5, on(0), locks(5, 1)...)
	expectChain(t, l, locks(5, 1, 3, 5), 5, on(0), locks(5, 1, 3)...)
	expectChain(t, l, locks(5, 1, 6, 8), 5, on(0), locks(5, 1)...)
}

func TestChainOfNumbersOfLocks(t *testing.T) {
	l := laid(slices.Repeat([]int{4}, 12))
	for i := range 12 {
		l.Routes = append(l.Routes, api.Route{ID: 1 + i, Path: over(i), Timer: 5}, api.Route{ID: 20 + i, Path: home(i), Timer: 5})
	}
	for n := range 13 {
		var list, other []api.Lock
		for i := range n {
			list, other = append(list, lk(1+i, 5)), append(other, lk(31-i, 5))
		}
		turned := slices.Clone(list)
		slices.Reverse(turned)
		expectChain(t, l, list, 5, on(0), list[:min(n, 8)]...)
		expectChain(t, l, turned, 5, on(0), list[:min(n, 8)]...)
		expectChain(t, l, other, 5, back(11), other[:min(n, 8)]...)
		expectChain(t, l, slices.Concat(list, other), 5, back(11), other[:min(n, 8)]...)
		for first := range n {
			expectChain(t, l, list, 5, on(first), list[first:min(n, first+8)]...)
		}
	}
}

// A route that may follow, but goes over an edge again, in either direction.
func TestChainOverAnEdgeAgain(t *testing.T) {
	l := ring([]int{3, 4, 5}, over(0, 1), over(2), over(0), over(2, 0), over(1), home(0, 2))
	expectChain(t, l, locks(5, 1, 2, 3), 5, on(0), locks(5, 1, 2)...)
	expectChain(t, l, locks(5, 1, 4), 5, on(0), locks(5, 1)...)
	expectChain(t, l, locks(5, 1, 4, 2), 5, on(0), locks(5, 1, 2)...)
	expectChain(t, l, locks(5, 2, 3, 5, 1), 5, on(2), locks(5, 2, 3, 5)...)
	expectChain(t, l, locks(5, 4, 5, 2), 5, on(2), locks(5, 4, 5)...)
	// Edge 1 leads back to edge 0.
	l = laid([]int{3, 4}, over(0), over(1), home(0))
	l.Joints = append(l.Joints, joined(1, 1, 0, 1))
	expectChain(t, l, locks(5, 1, 2, 3), 5, on(0), locks(5, 1, 2)...)
	expectChain(t, l, locks(5, 2, 3, 1), 5, on(1), locks(5, 2, 3)...)
	// Edge 0 leads back to itself, and may be gone over once.
	l = laid([]int{3}, over(0), home(0))
	l.Joints = append(l.Joints, joined(0, 1, 0, 0))
	expectChain(t, l, locks(5, 1, 2), 5, on(0), locks(5, 1)...)
	expectChain(t, l, slices.Repeat(locks(5, 2, 1), 3), 5, on(0), locks(5, 1)...)
}

// The same lock, or the same route, several times in the list.
func TestChainOfALockSeveralTimes(t *testing.T) {
	l := tracks()
	list := slices.Repeat(locks(5, 1, 3, 4), 4)
	expectChain(t, l, list, 5, on(0), locks(5, 1, 3, 4)...)
	for i := range list {
		list[i].No = 100 - i
	}
	expectChain(t, l, list, 5, on(0), list[:3]...)
	expectChain(t, l, list[1:], 5, on(0), list[3], list[1], list[2])
}

// A fork: which way the chain goes is said by the list alone, even where the other
// way leads further.
func TestChainAtAFork(t *testing.T) {
	l := laid([]int{3, 4, 5, 6}, over(0), over(1), over(3), over(2))
	l.Joints = []api.Joint{joined(0, 1, 1, 0), joined(0, 1, 3, 0), joined(1, 1, 2, 0)}
	expectChain(t, l, locks(5, 1, 2, 3, 4), 5, on(0), locks(5, 1, 2, 4)...)
	expectChain(t, l, locks(5, 4, 3, 2, 1), 5, on(0), locks(5, 1, 3)...)
}

func TestChainOnLayoutsThatAreNotValid(t *testing.T) {
	for _, l := range invalid() {
		for _, s := range []api.Step{on(0), on(2), back(3)} {
			expectChain(t, l, locks(5, 1, 2, 3, 4, 5, 6, 7), 5, s)
			expectChain(t, line(), locks(5, 1, 2, 3, 4, 5, 6, 7), 5, s, wantChain(line(), locks(5, 1, 2, 3, 4, 5, 6, 7), 5, s)...)
		}
	}
	expectChain(t, api.Topo{}, locks(5, 1), 5, on(0))
}

// P17.2: Build

func TestBuild(t *testing.T) {
	l, all := line(), locks(5, 1, 2, 3, 4, 5, 6)
	expectBuild(t, l, all, 5, 50, false, 0, fwd(50, 100, up(0, 3), sect(250, 10), sect(550, 20), sect(850, 30)), api.OK)
	expectBuild(t, l, all, 5, 51, false, 0, fwd(51, 100, up(1, 3), sect(100, 10), sect(400, 20), sect(700, 30)), api.OK)
	expectBuild(t, l, all, 5, 52, false, 10, fwd(52, 100, up(2, 3), sect(150, 20), sect(450, 30)), api.OK)
	expectBuild(t, l, all, 5, 53, false, 99, fwd(53, 100, over(3), sect(100, 30)), api.OK)
	expectBuild(t, l, all, 5, 53, true, 0, rev(53, 20, down(3, 0), sect(500, 40), sect(700, 50), sect(780, 60)), api.OK)
	expectBuild(t, l, all, 5, 52, true, 7, rev(52, 20, down(2, 0), sect(150, 40), sect(350, 50), sect(430, 60)), api.OK)
	expectBuild(t, l, all, 5, 51, true, 100, rev(51, 20, down(1, 0), sect(100, 50), sect(180, 60)), api.OK)
	expectBuild(t, l, all, 5, 50, true, 29, rev(50, 20, home(0), sect(30, 60)), api.OK)
	expectBuild(t, l, all[:1], 5, 50, false, 0, fwd(50, 0, over(0, 1), sect(250, 10)), api.OK)
	expectBuild(t, l, all[:2], 5, 50, false, 0, fwd(50, 30, up(0, 2), sect(250, 10), sect(520, 20)), api.OK)
	expectBuild(t, l, locks(5, 7), 5, 51, false, 150, fwd(51, 0, over(1, 2), sect(400, 70)), api.OK)
	expectBuild(t, l, slices.Concat(locks(6, 1), locks(5, 3, 2)), 5, 52, false, 10, fwd(52, 100, up(2, 3), sect(150, 20), sect(450, 30)), api.OK)
}

// The front on each edge that the authority is over, also one behind the first one
// of the route: the path goes on from there, and its To stay.
func TestBuildFromEachDistance(t *testing.T) {
	l, ok := line(), map[api.Errno]int{}
	for _, list := range [][]api.Lock{locks(5, 1, 2, 3, 4, 5, 6), locks(5, 7, 3, 6, 5), locks(5, 2, 5), locks(5, 3, 4), locks(5, 6, 1)} {
		for ref := 50; ref < 54; ref++ {
			for n := range 851 {
				for _, rev := range []bool{false, true} {
					want, err := wantBuild(l, list, 5, ref, rev, n)
					have, haveErr := Build(l, list, 5, ref, rev, n)
					if !sameMA(have, want) || haveErr != err {
						t.Fatalf("%v, %d, %v, %d: %+v %d, want %+v %d", list, ref, rev, n, have, haveErr, want, err)
					}
					ok[err]++
				}
			}
		}
	}
	if len(ok) != 3 || ok[api.OK] < 4000 || ok[api.ErrNone] < 3000 || ok[api.ErrEnd] < 10000 {
		t.Errorf("%v", ok)
	}
	all := locks(5, 1, 2, 3)
	for n := range 850 {
		expectBuild(t, l, all, 5, 50, false, n, fwd(50, 100, up(0, 3), wantFrom(n, sect(250, 10), sect(550, 20), sect(850, 30))...), api.OK)
	}
	expectBuildFails(t, l, all, 5, 50, false, 850, api.ErrEnd)
}

// wantFrom returns the sections of list which do not end before the distance n.
func wantFrom(n int, list ...api.Sect) []api.Sect {
	return slices.DeleteFunc(list, func(s api.Sect) bool { return s.To < n })
}

func TestBuildWithEachErrorOfLocate(t *testing.T) {
	l, all := line(), locks(5, 1, 2, 3, 4, 5, 6)
	for _, n := range outside(0, 1<<40) {
		expectBuildFails(t, l, all, 5, 50, false, n, api.ErrArg)
		expectBuildFails(t, l, all, 5, 53, true, n, api.ErrArg)
	}
	for _, x := range invalid() {
		expectBuildFails(t, x, all, 5, 50, false, 0, api.ErrArg)
		expectBuildFails(t, x, all, 5, 53, true, 10, api.ErrArg)
	}
	expectBuildFails(t, api.Topo{}, all, 5, 50, false, 0, api.ErrNone)
	for _, ref := range append(outside(50, 53), 0, 7) {
		expectBuildFails(t, l, all, 5, ref, false, 0, api.ErrNone)
	}
	for _, n := range []int{951, 952, 1 << 20, 1 << 32, 1 << 40} {
		expectBuildFails(t, l, all, 5, 50, false, n, api.ErrEnd)
		expectBuildFails(t, l, all, 5, 53, true, n, api.ErrEnd)
	}
	fork := l
	fork.Joints = append(slices.Clone(l.Joints), joined(0, 1, 3, 1))
	expectBuild(t, fork, locks(5, 1), 5, 50, false, 50, fwd(50, 0, over(0, 1), sect(250, 10)), api.OK)
	expectBuildFails(t, fork, locks(5, 1), 5, 50, false, 51, api.ErrFork)
	circle := ring([]int{10, 20}, over(0), over(1))
	expectBuildFails(t, circle, locks(5, 1, 2), 5, 50, false, 30*20+5, api.ErrLong)
	expectBuildFails(t, circle, locks(5, 1, 2), 5, 50, false, 30*20+5+1, api.ErrLong)
	expectBuildFails(t, circle, nil, 5, 50, false, 30*20+5, api.ErrNone)
	expectBuildFails(t, circle, nil, 5, 50, false, 30*20+5+1, api.ErrLong)
}

func TestBuildWithAnEmptyChain(t *testing.T) {
	l := line()
	expectBuildFails(t, l, nil, 5, 50, false, 0, api.ErrNone)
	expectBuildFails(t, l, locks(6, 1, 2, 3), 5, 50, false, 0, api.ErrNone)
	expectBuildFails(t, l, locks(5, 2, 3), 5, 50, false, 0, api.ErrNone)
	expectBuildFails(t, l, locks(5, 2, 3), 5, 50, false, 250, api.ErrNone)
	expectBuild(t, l, locks(5, 2, 3), 5, 50, false, 251, fwd(50, 100, up(0, 3), sect(550, 20), sect(850, 30)), api.OK)
	expectBuildFails(t, l, locks(5, 1, 2, 3), 5, 53, true, 0, api.ErrNone)
	expectBuildFails(t, l, locks(5, 4, 5, 6), 5, 50, false, 0, api.ErrNone)
	expectBuildFails(t, l, locks(5, 9, 0, -1), 5, 50, false, 0, api.ErrNone)
}

// A path of up to 24 steps: the front is as many edges ahead as the chain leaves.
func TestBuildWithNumbersOfSteps(t *testing.T) {
	l := long(40)
	for i := range 16 {
		path := up(2*i, 2*i+1)
		l.Routes = append(l.Routes, api.Route{ID: 1 + i, Path: path, Timer: 9})
	}
	l.Routes = append(l.Routes, api.Route{ID: 40, Path: up(32, 39), Timer: 9}, api.Route{ID: 41, Path: down(39, 32), Timer: 9})
	for first := range 16 {
		for ref := 50; ref <= 50+2*first+1; ref++ {
			list := []api.Lock{lk(1+first, 5)}
			for more := range 8 {
				steps := min(2*first+1+2*more, 31) - (ref - 50) + 1
				n := max(2*first*4-(ref-50)*4-1, 0)
				want := api.Errno(api.OK)
				if steps > 24 {
					want = api.ErrLong
				}
				m, err := wantBuild(l, list, 5, ref, false, n)
				if err != want || err == api.OK && (len(m.Path) != steps || len(m.Sects) != min(more, 15-first)+1) {
					t.Fatalf("%v, %d: %+v %d, want %d", list, ref, m, err, want)
				}
				expectBuild(t, l, list, 5, ref, false, n, m, err)
				list = append(list, lk(2+first+more, 5))
			}
		}
	}
	for edge := range 33 {
		n := 4*(32-edge) + 2
		if edge < 16 {
			expectBuildFails(t, l, locks(5, 40), 5, 50+edge, false, n, api.ErrLong)
		} else {
			expectBuild(t, l, locks(5, 40), 5, 50+edge, false, n, fwd(50+edge, 0, up(edge, 39), sect(4*(40-edge)-2, 9)), api.OK)
		}
	}
	expectBuild(t, l, locks(5, 41), 5, 89, true, 28, rev(89, 0, down(39, 32), sect(30, 9)), api.OK)
}

// Up to 41 edges up to the front, and routes over up to 40 behind it.
func TestBuildWithTheMostSteps(t *testing.T) {
	l := laid(slices.Repeat([]int{2}, 39))
	l.Routes = []api.Route{{ID: 1, Path: over(38), Timer: 1}}
	expectBuildFails(t, l, locks(5, 1), 5, 50, false, 76, api.ErrLong)
	expectBuildFails(t, l, locks(5, 1), 5, 64, false, 48, api.ErrLong)
	expectBuild(t, l, locks(5, 1), 5, 65, false, 46, fwd(65, 0, up(15, 38), sect(47, 1)), api.OK)
	l = ring(slices.Repeat([]int{1}, 40))
	for i := range 5 {
		l.Routes = append(l.Routes, api.Route{ID: 1 + i, Path: up(8*i, 8*i+7), Timer: 1})
	}
	for n := range 41 {
		m, err := wantBuild(l, locks(5, 1, 2, 3, 4, 5), 5, 50, false, n)
		if err != api.ErrLong {
			t.Fatalf("%d: %d", n, err)
		}
		expectBuild(t, l, locks(5, 1, 2, 3, 4, 5), 5, 50, false, n, m, err)
	}
	expectBuildFails(t, l, locks(5, 1, 2, 3, 4, 5), 5, 50, false, 41, api.ErrLong)
	expectBuildFails(t, l, nil, 5, 50, false, 40, api.ErrNone)
}

// An edge that the path goes over again: up to the front, or behind it.
func TestBuildOverAnEdgeTwice(t *testing.T) {
	l := ring([]int{10, 20, 30}, over(0), over(1), over(2, 0), over(2), home(2, 1))
	m := fwd(50, 0, over(0, 1, 2), sect(5, 10), sect(25, 20), sect(55, 40))
	expectBuild(t, l, locks(5, 1, 2, 4), 5, 50, false, 0, m, api.OK)
	expectBuild(t, l, locks(5, 1, 2, 4), 5, 50, false, 5, m, api.OK)
	expectBuildFails(t, l, locks(5, 1, 2, 4), 5, 50, false, 6, api.ErrLong)
	m.Sects = m.Sects[1:]
	expectBuild(t, l, locks(5, 2, 4), 5, 50, false, 6, m, api.OK)
	expectBuildFails(t, l, locks(5, 2, 4, 1), 5, 50, false, 6, api.ErrLong)
	expectBuildFails(t, l, locks(5, 2, 3), 5, 50, false, 6, api.ErrLong)
	for _, n := range []int{56, 60, 65, 66, 86, 116, 500} {
		expectBuildFails(t, l, locks(5, 1, 2, 4), 5, 50, false, n, api.ErrLong)
	}
	expectBuild(t, l, locks(5, 5), 5, 50, true, 6, rev(50, 0, home(0, 2, 1), sect(55, 50)), api.OK)
	expectBuildFails(t, l, locks(5, 5), 5, 50, true, 66, api.ErrLong)
	// Edge 1 leads back to edge 0.
	l = laid([]int{10, 20}, over(0, 1), home(0), over(1))
	l.Joints = []api.Joint{joined(0, 1, 1, 0), joined(1, 1, 0, 1)}
	expectBuildFails(t, l, locks(5, 3, 2), 5, 50, false, 4, api.ErrNone)
	expectBuild(t, l, locks(5, 3, 2), 5, 51, false, 4, api.MA{Ref: 51, Path: []api.Step{on(1), back(0)}, Sects: sects(sect(10, 30), sect(20, 20))}, api.OK)
	l.Joints = []api.Joint{joined(0, 0, 1, 0), joined(1, 1, 0, 0)}
	l.Routes = l.Routes[1:]
	expectBuild(t, l, locks(5, 3, 2), 5, 50, true, 4, api.MA{Ref: 50, Rev: true, Path: []api.Step{back(0), on(1)}, Sects: sects(sect(5, 20), sect(25, 30))}, api.OK)
	expectBuildFails(t, l, locks(5, 3, 2), 5, 50, true, 6, api.ErrFork)
}

// The end of an authority is ahead of the front, Gaps as long as can be.
func TestBuildUpToTheEnd(t *testing.T) {
	for gap := range 20 {
		l := laid([]int{10, 10}, over(0, 1), home(1, 0))
		l.Routes[0].Gap, l.Routes[1].Gap = gap, gap
		for n := range 16 {
			if to := 15 - gap; to > n {
				expectBuild(t, l, locks(5, 1), 5, 50, false, n, fwd(50, gap, over(0, 1), sect(to, 10)), api.OK)
				expectBuild(t, l, locks(5, 2), 5, 51, true, n, rev(51, gap, home(1, 0), sect(to, 20)), api.OK)
			} else {
				expectBuildFails(t, l, locks(5, 1), 5, 50, false, n, api.ErrEnd)
				expectBuildFails(t, l, locks(5, 2), 5, 51, true, n, api.ErrEnd)
			}
		}
	}
}

// The Gap of the last route alone counts. If it is as long as it can be, the last
// section is 1 long; it cannot be as long as the route.
func TestBuildWithGapsOfTheLastRoute(t *testing.T) {
	l := laid([]int{10, 20, 30}, over(0), over(1), over(2), home(2), home(1), home(0))
	for i := range l.Routes {
		l.Routes[i].Gap = l.Edges[l.Routes[i].Path[0].Edge] - 1
	}
	expectBuild(t, l, locks(5, 1, 2, 3), 5, 50, false, 0, fwd(50, 29, up(0, 2), sect(5, 10), sect(25, 20), sect(26, 30)), api.OK)
	expectBuild(t, l, locks(5, 1, 2), 5, 50, false, 5, fwd(50, 19, up(0, 1), sect(5, 10), sect(6, 20)), api.OK)
	expectBuildFails(t, l, locks(5, 1), 5, 50, false, 0, api.ErrEnd)
	expectBuild(t, l, locks(5, 4, 5, 6), 5, 52, true, 3, rev(52, 9, down(2, 0), sect(15, 40), sect(35, 50), sect(36, 60)), api.OK)
	for i := range l.Routes {
		l.Routes[i].Gap++
		expectBuildFails(t, l, locks(5, 1, 2, 3), 5, 50, false, 0, api.ErrArg)
		l.Routes[i].Gap -= 2
	}
	expectBuild(t, l, locks(5, 1, 2, 3), 5, 50, false, 0, fwd(50, 28, up(0, 2), sect(5, 10), sect(25, 20), sect(27, 30)), api.OK)
}

// The group and the front at the end of the first route.
func TestBuildWithAFirstSectionOfNothing(t *testing.T) {
	l := laid([]int{10, 20, 30}, over(0), over(1), over(2), home(2), home(1), home(0))
	l.Bals = []api.Bal{{ID: 50, Edge: 0, At: 10}, {ID: 51, Edge: 1, At: 20}, {ID: 52, Edge: 2, At: 0}, {ID: 53, Edge: 1, At: 0}}
	expectBuild(t, l, locks(5, 1, 2, 3), 5, 50, false, 0, fwd(50, 0, up(0, 2), sect(20, 20), sect(50, 30)), api.OK)
	expectBuild(t, l, locks(5, 1, 2), 5, 50, false, 0, fwd(50, 0, up(0, 1), sect(20, 20)), api.OK)
	expectBuild(t, l, locks(5, 3, 2), 5, 51, false, 0, fwd(51, 0, up(1, 2), sect(30, 30)), api.OK)
	expectBuildFails(t, l, locks(5, 1), 5, 50, false, 0, api.ErrEnd)
	expectBuildFails(t, l, locks(5, 1, 3), 5, 50, false, 0, api.ErrEnd)
	expectBuildFails(t, l, locks(5, 2, 3), 5, 50, false, 0, api.ErrNone)
	expectBuild(t, l, locks(5, 2, 3), 5, 50, false, 1, fwd(50, 0, up(0, 2), sect(20, 20), sect(50, 30)), api.OK)
	expectBuild(t, l, locks(5, 1, 2, 3), 5, 53, false, 0, fwd(53, 0, up(1, 2), sect(20, 20), sect(50, 30)), api.OK)
	expectBuild(t, l, locks(5, 4, 5, 6), 5, 52, true, 0, rev(52, 0, down(2, 0), sect(20, 50), sect(30, 60)), api.OK)
	expectBuild(t, l, locks(5, 4, 5, 6), 5, 53, true, 0, rev(53, 0, down(1, 0), sect(10, 60)), api.OK)
	expectBuildFails(t, l, locks(5, 4, 6), 5, 52, true, 0, api.ErrEnd)
	// A Gap that leaves nothing is an error, not a section that is omitted.
	l.Routes[1].Gap = 19
	expectBuild(t, l, locks(5, 1, 2), 5, 50, false, 0, fwd(50, 19, up(0, 1), sect(1, 20)), api.OK)
	l.Routes[0].Gap = 9
	expectBuild(t, l, locks(5, 1, 2), 5, 50, false, 0, fwd(50, 19, up(0, 1), sect(1, 20)), api.OK)
}

func TestBuildWithTheMostSections(t *testing.T) {
	l := laid(slices.Repeat([]int{10}, 12))
	for i := range 12 {
		l.Routes = append(l.Routes, api.Route{ID: 1 + i, Path: over(i), Gap: i % 10, Timer: 100 + i})
	}
	var list []api.Lock
	var want []api.Sect
	for i := range 12 {
		list = append(list, lk(1+i, 5))
		want = append(want, sect(5+10*i, 100+i))
		have := min(i, 7)
		m := fwd(50, have, up(0, have), slices.Clone(want[:have+1])...)
		m.Sects[have].To -= have
		expectBuild(t, l, list, 5, 50, false, 0, m, api.OK)
	}
	// The first of eight sections may be omitted.
	l.Bals[0].At = 10
	for i := range want {
		want[i].To -= 5
	}
	m := fwd(50, 7, up(0, 7), slices.Clone(want[1:8])...)
	m.Sects[6].To -= 7
	expectBuild(t, l, list, 5, 50, false, 0, m, api.OK)
}

// Which error comes where several apply.
func TestBuildErrorsInOrder(t *testing.T) {
	circle := ring([]int{10, 20}, over(0), over(1))
	circle.Routes[0].Gap = 9
	expectBuildFails(t, circle, locks(5, 1), 5, 50, false, 34, api.ErrLong)
	expectBuildFails(t, circle, locks(5, 2), 5, 50, false, 34, api.ErrNone)
	expectBuildFails(t, circle, locks(5, 1), 6, 50, false, 34, api.ErrNone)
	expectBuildFails(t, circle, locks(5, 1), 5, 50, false, 4, api.ErrEnd)
	expectBuildFails(t, circle, locks(5, 1), 5, 50, false, 1<<40, api.ErrLong)
	expectBuildFails(t, circle, nil, 5, 50, false, 1<<40+1, api.ErrArg)
	expectBuildFails(t, circle, nil, 5, 99, false, -1, api.ErrNone)
	expectBuildFails(t, circle, nil, 5, 99, false, 1<<40+1, api.ErrNone)
	expectBuildFails(t, line(), nil, 5, 50, false, 951, api.ErrEnd)
	expectBuildFails(t, line(), nil, 5, 99, false, 951, api.ErrNone)
	for _, l := range invalid() {
		expectBuildFails(t, l, nil, 5, 99, false, -1, api.ErrArg)
		expectBuildFails(t, l, nil, 5, 50, false, 0, api.ErrArg)
	}
	l := long(40)
	l.Routes = []api.Route{{ID: 1, Path: over(39), Gap: 3, Timer: 1}}
	expectBuildFails(t, l, locks(5, 1), 5, 50, false, 158, api.ErrLong)
	expectBuildFails(t, l, locks(5, 1), 5, 65, false, 98, api.ErrLong)
	expectBuildFails(t, l, locks(5, 1), 5, 66, false, 94, api.ErrEnd)
	expectBuildFails(t, l, locks(5, 1), 5, 66, false, 91, api.ErrEnd)
	l.Routes[0].Gap = 0
	expectBuild(t, l, locks(5, 1), 5, 66, false, 93, fwd(66, 0, up(16, 39), sect(94, 1)), api.OK)
	expectBuildFails(t, l, locks(5, 1), 5, 66, false, 95, api.ErrEnd)
}

func TestBuildForTrains(t *testing.T) {
	for _, train := range append(outside(0, 1<<24-1), 0, 1, 5, 1<<24-1) {
		list := slices.Concat(locks(7, 2, 1), locks(train, 1))
		expectBuild(t, line(), list, train, 50, false, 0, fwd(50, 0, over(0, 1), sect(250, 10)), api.OK)
		expectBuildFails(t, line(), list[:2], train, 50, false, 0, api.ErrNone)
	}
}

// P17.3: Reach

func TestReach(t *testing.T) {
	m := fwd(50, 30, up(0, 3), sect(100, 50), sect(200, 20), sect(300, 70), sect(400, 10))
	for age := range 80 {
		want := 0
		switch {
		case age < 10:
			want = 400
		case age < 20:
			want = 300
		case age < 50:
			want = 100
		}
		expectReach(t, m, age, want)
	}
	expectReach(t, m, -1, 400)
	expectReach(t, m, math.MinInt, 400)
	expectReach(t, m, math.MaxInt, 0)
	expectReach(t, m, 1<<32, 0)
	expectReach(t, api.MA{}, 0, 0)
	expectReach(t, api.MA{}, -1, 0)
}

func TestReachAtEachTimer(t *testing.T) {
	for _, timers := range [][]int{{1}, {1000}, {1, 1000}, {1000, 1}, {5, 5, 5}, {1, 2, 3}, {3, 2, 1}, {2, 3, 1}, {2, 1, 3}, {9, 8, 7, 6, 5, 4, 3, 2}, {2, 3, 4, 5, 6, 7, 8, 9}, {9, 2, 8, 3, 7, 4, 6, 5}} {
		var m api.MA
		for i, n := range timers {
			m.Sects = append(m.Sects, sect(10*i+10, n))
		}
		last := m.Sects[len(m.Sects)-1].To
		for _, timer := range append(timers, 0) {
			for age := timer - 2; age < timer+2; age++ {
				want := wantReach(m, age)
				expectReach(t, m, age, want)
				if want > last {
					t.Fatalf("%v, %d: %d after %d", timers, age, want, last)
				}
			}
		}
		expectReach(t, m, slices.Min(timers)-1, last)
		expectReach(t, m, timers[0], 0)
		expectReach(t, m, timers[0]-1, wantReach(m, timers[0]-1))
	}
}

// Sections that no valid authority has.
func TestReachOfAnySections(t *testing.T) {
	m := api.MA{Sects: sects(sect(-5, 3), sect(math.MinInt, 2), sect(math.MaxInt, math.MaxInt), sect(7, -4))}
	expectReach(t, m, -5, 7)
	expectReach(t, m, -4, math.MaxInt)
	expectReach(t, m, 1, math.MaxInt)
	expectReach(t, m, 2, -5)
	expectReach(t, m, 3, 0)
	m.Sects = sects(sect(5, math.MinInt))
	expectReach(t, m, math.MinInt, 0)
	m.Sects = sects(sect(5, math.MaxInt))
	expectReach(t, m, math.MaxInt-1, 5)
	expectReach(t, m, math.MaxInt, 0)
}

// P17.3: Cut

func TestCut(t *testing.T) {
	m := fwd(50, 30, up(0, 3), sect(100, 50), sect(200, 20), sect(300, 70))
	cut := func(list ...api.Sect) api.MA { return fwd(50, 0, up(0, 3), list...) }
	for _, to := range []int{1, 2, 50, 99, 100} {
		expectCut(t, m, to, cut(sect(to, 50)))
	}
	for _, to := range []int{101, 102, 199, 200} {
		expectCut(t, m, to, cut(sect(100, 50), sect(to, 20)))
	}
	for _, to := range []int{201, 299, 300} {
		expectCut(t, m, to, cut(sect(100, 50), sect(200, 20), sect(to, 70)))
	}
	for _, to := range []int{301, 302, 330, 331, 1 << 32, math.MaxInt} {
		expectCut(t, m, to, m)
	}
	for _, to := range []int{0, -1, -2, -100, -1 << 32, math.MinInt} {
		expectCut(t, m, to, cut())
	}
}

func TestCutOfEachAuthority(t *testing.T) {
	l := line()
	for _, m := range valid() {
		end := m.Sects[len(m.Sects)-1].To
		for to := -3; to <= far(m)+3; to++ {
			want := wantCut(m, to)
			expectCut(t, m, to, want)
			expectMay(t, l, want, to >= 1)
			if to > end && !sameMA(want, m) || to >= 1 && to <= end && (want.Sects[len(want.Sects)-1].To != to || want.Gap != 0) {
				t.Fatalf("%+v, %d: %+v", m, to, want)
			}
		}
	}
}

// Authorities that are not valid.
func TestCutOfAnyAuthority(t *testing.T) {
	m := rev(-4, -3, []api.Step{back(-1), on(99)}, sect(500, -1), sect(-20, 2000), sect(math.MinInt, 0), sect(math.MaxInt, 7))
	expectCut(t, m, 501, rev(-4, 0, m.Path, sect(500, -1), sect(-20, 2000), sect(math.MinInt, 0), sect(501, 7)))
	expectCut(t, m, 500, rev(-4, 0, m.Path, sect(500, -1)))
	expectCut(t, m, math.MaxInt, rev(-4, 0, m.Path, m.Sects...))
	expectCut(t, m, 0, rev(-4, 0, m.Path))
	m.Sects = m.Sects[1:3]
	expectCut(t, m, 1, m)
	expectCut(t, m, 0, rev(-4, 0, m.Path))
	expectCut(t, m, -20, rev(-4, 0, m.Path))
	m.Sects = nil
	expectCut(t, m, 1, m)
	expectCut(t, m, 0, rev(-4, 0, m.Path))
	expectCut(t, api.MA{}, 1, api.MA{})
	expectCut(t, api.MA{}, 0, api.MA{})
}

// P17.4: Extent

func TestExtent(t *testing.T) {
	l := line()
	m := fwd(50, 20, up(0, 2), sect(10, 5), sect(530, 1))
	expectExtent(t, l, m, 0, 550, spans(sp(0, 50, 100), sp(1, 0, 200), sp(2, 0, 300)), api.OK)
	expectExtent(t, l, m, 0, 530, spans(sp(0, 50, 100), sp(1, 0, 200), sp(2, 0, 280)), api.OK)
	expectExtent(t, l, m, 0, 1, spans(sp(0, 50, 51)), api.OK)
	expectExtent(t, l, m, 40, 251, spans(sp(0, 90, 100), sp(1, 0, 200), sp(2, 0, 1)), api.OK)
	expectExtent(t, l, m, 60, 70, spans(sp(1, 10, 20)), api.OK)
	expectExtent(t, l, m, 549, 550, spans(sp(2, 299, 300)), api.OK)
	m = rev(53, 100, down(3, 0), sect(100, 1000), sect(700, 30))
	expectExtent(t, l, m, 0, 800, spans(sp(0, 0, 100), sp(1, 0, 200), sp(2, 0, 300), sp(3, 0, 200)), api.OK)
	expectExtent(t, l, m, 0, 700, spans(sp(1, 0, 200), sp(2, 0, 300), sp(3, 0, 200)), api.OK)
	expectExtent(t, l, m, 199, 201, spans(sp(2, 299, 300), sp(3, 0, 1)), api.OK)
	expectExtent(t, l, m, 10, 20, spans(sp(3, 180, 190)), api.OK)
	expectExtent(t, l, m, 701, 799, spans(sp(0, 1, 99)), api.OK)
	for _, at := range []int{0, 1, 200, 700, 800} {
		expectExtent(t, l, m, at, at, nil, api.OK)
	}
}

func TestExtentBetweenAllDistances(t *testing.T) {
	l := laid([]int{4, 5, 6})
	l.Bals[0].At, l.Bals[2].At = 1, 4
	for _, m := range []api.MA{fwd(50, 2, up(0, 2), sect(3, 1), sect(11, 1)), rev(52, 0, down(2, 1), sect(8, 1)), fwd(50, 0, over(0), sect(3, 1)), rev(50, 0, home(0), sect(1, 1))} {
		end := m.Sects[len(m.Sects)-1].To + m.Gap
		for from := -2; from < end+3; from++ {
			for to := -2; to < end+3; to++ {
				want, err := wantExtent(l, m, from, to)
				if ok := from >= 0 && from <= to && to <= end; ok != (err == api.OK) || ok && span.Total(want) != to-from {
					t.Fatalf("%+v, %d, %d: %v %d", m, from, to, want, err)
				}
				expectExtent(t, l, m, from, to, want, err)
			}
		}
	}
}

func TestExtentFails(t *testing.T) {
	l := line()
	for _, m := range valid() {
		end := m.Sects[len(m.Sects)-1].To + m.Gap
		whole, _ := wantExtent(l, m, 0, end)
		expectExtent(t, l, m, 0, end, whole, api.OK)
		expectExtentFails(t, l, m, 0, end+1)
		expectExtentFails(t, l, m, end, end+1)
		expectExtentFails(t, l, m, end+1, end+1)
		expectExtentFails(t, l, m, -1, end)
		expectExtentFails(t, l, m, -1, -1)
		expectExtentFails(t, l, m, 1, 0)
		expectExtentFails(t, l, m, end, end-1)
		for _, n := range outside(0, end) {
			expectExtentFails(t, l, m, 0, n)
			expectExtentFails(t, l, m, n, end)
			expectExtentFails(t, l, m, n, n)
		}
		for _, x := range invalid() {
			expectExtentFails(t, x, m, 0, 1)
			expectExtentFails(t, x, m, 0, 0)
		}
		for _, spoil := range []func(m *api.MA){
			func(m *api.MA) { m.Ref = 7 }, func(m *api.MA) { m.Rev = !m.Rev }, func(m *api.MA) { m.Path = nil },
			func(m *api.MA) { m.Path = append(slices.Clone(m.Path), m.Path[0]) }, func(m *api.MA) { m.Gap = -1 },
			func(m *api.MA) { m.Gap = 1000 }, func(m *api.MA) { m.Sects = nil }, func(m *api.MA) { m.Sects = slices.Repeat(m.Sects, 2) },
			func(m *api.MA) { m.Sects = append(slices.Clone(m.Sects), sect(far(*m)+1, 1)) }, func(m *api.MA) { m.Sects = sects(sect(1, 0)) },
		} {
			other := m
			spoil(&other)
			expectExtentFails(t, l, other, 0, 1)
			expectExtentFails(t, l, other, 0, 0)
		}
	}
	expectExtentFails(t, l, api.MA{}, 0, 0)
	expectExtentFails(t, api.Topo{}, api.MA{}, 0, 0)
}

// P17.8: Stretch

func TestStretch(t *testing.T) {
	l := line()
	p := api.Pos{Edge: 0, At: 40}
	expectStretch(t, l, p, 0, nil, api.OK)
	expectStretch(t, l, p, 1, spans(sp(0, 40, 41)), api.OK)
	expectStretch(t, l, p, 60, spans(sp(0, 40, 100)), api.OK)
	expectStretch(t, l, p, 61, spans(sp(0, 40, 100), sp(1, 0, 1)), api.OK)
	expectStretch(t, l, p, 560, spans(sp(0, 40, 100), sp(1, 0, 200), sp(2, 0, 300)), api.OK)
	expectStretch(t, l, p, 960, spans(sp(0, 40, 100), sp(1, 0, 200), sp(2, 0, 300), sp(3, 0, 400)), api.OK)
	expectStretch(t, l, p, 961, nil, api.ErrEnd)
	p = api.Pos{Edge: 3, At: 40, Rev: true}
	expectStretch(t, l, p, 0, nil, api.OK)
	expectStretch(t, l, p, 1, spans(sp(3, 39, 40)), api.OK)
	expectStretch(t, l, p, 40, spans(sp(3, 0, 40)), api.OK)
	expectStretch(t, l, p, 41, spans(sp(2, 299, 300), sp(3, 0, 40)), api.OK)
	expectStretch(t, l, p, 540, spans(sp(1, 0, 200), sp(2, 0, 300), sp(3, 0, 40)), api.OK)
	expectStretch(t, l, p, 640, spans(sp(0, 0, 100), sp(1, 0, 200), sp(2, 0, 300), sp(3, 0, 40)), api.OK)
	expectStretch(t, l, p, 641, nil, api.ErrEnd)
}

func TestStretchFromTheEndsOfEdges(t *testing.T) {
	l := laid([]int{4, 5, 6})
	for edge, length := range l.Edges {
		for at := range length + 1 {
			for n := range 17 {
				for _, rev := range []bool{false, true} {
					p := api.Pos{Edge: edge, At: at, Rev: rev}
					want, err := wantStretch(l, p, n)
					if err == api.OK && span.Total(want) != n {
						t.Fatalf("%+v, %d: %v", p, n, want)
					}
					expectStretch(t, l, p, n, want, err)
				}
			}
		}
	}
	expectStretch(t, l, api.Pos{Edge: 0, At: 4}, 3, spans(sp(1, 0, 3)), api.OK)
	expectStretch(t, l, api.Pos{Edge: 1, At: 0, Rev: true}, 3, spans(sp(0, 1, 4)), api.OK)
	expectStretch(t, l, api.Pos{Edge: 1, At: 5, Rev: true}, 5, spans(sp(1, 0, 5)), api.OK)
	expectStretch(t, l, api.Pos{Edge: 2, At: 6}, 0, nil, api.OK)
	expectStretch(t, l, api.Pos{Edge: 2, At: 6}, 1, nil, api.ErrEnd)
}

func TestStretchWithEachErrorOfWalk(t *testing.T) {
	l := line()
	for _, n := range outside(0, 1<<40) {
		expectStretch(t, l, api.Pos{}, n, nil, api.ErrArg)
	}
	for _, at := range outside(0, 100) {
		expectStretch(t, l, api.Pos{At: at}, 0, nil, api.ErrArg)
	}
	for _, edge := range outside(0, 3) {
		expectStretch(t, l, api.Pos{Edge: edge}, 0, nil, api.ErrArg)
	}
	for _, x := range invalid() {
		expectStretch(t, x, api.Pos{At: 1}, 1, nil, api.ErrArg)
		expectStretch(t, x, api.Pos{At: 1}, 0, nil, api.ErrArg)
	}
	expectStretch(t, api.Topo{}, api.Pos{}, 0, nil, api.ErrArg)
	expectStretch(t, l, api.Pos{}, 1001, nil, api.ErrEnd)
	expectStretch(t, l, api.Pos{}, 1<<40, nil, api.ErrEnd)
	l.Joints = append(l.Joints, joined(0, 1, 3, 1))
	expectStretch(t, l, api.Pos{}, 100, spans(sp(0, 0, 100)), api.OK)
	expectStretch(t, l, api.Pos{}, 101, nil, api.ErrFork)
	expectStretch(t, l, api.Pos{Edge: 2, Rev: true}, 300, spans(sp(0, 0, 100), sp(1, 0, 200)), api.OK)
	expectStretch(t, l, api.Pos{Edge: 2, Rev: true}, 301, nil, api.ErrEnd)
}

// A walk may go over up to 41 edges, but Over only over 40.
func TestStretchAroundCircles(t *testing.T) {
	l := ring([]int{10, 20})
	for _, n := range []int{30, 31, 100, 590, 600 - 5, 600 - 5 + 1} {
		want := spans(sp(0, 0, 10), sp(1, 0, 20))
		switch {
		case n > 595:
			expectStretch(t, l, api.Pos{At: 5}, n, nil, api.ErrArg)
		default:
			expectStretch(t, l, api.Pos{At: 5}, n, want, api.OK)
		}
	}
	expectStretch(t, l, api.Pos{At: 5}, 604, nil, api.ErrArg)
	expectStretch(t, l, api.Pos{At: 5}, 605, nil, api.ErrArg)
	expectStretch(t, l, api.Pos{At: 5}, 606, nil, api.ErrLong)
	expectStretch(t, l, api.Pos{At: 5}, 29, spans(sp(0, 0, 4), sp(0, 5, 10), sp(1, 0, 20)), api.OK)
	expectStretch(t, l, api.Pos{At: 5}, 27, spans(sp(0, 0, 2), sp(0, 5, 10), sp(1, 0, 20)), api.OK)
	expectStretch(t, l, api.Pos{At: 5, Rev: true}, 29, spans(sp(0, 0, 5), sp(0, 6, 10), sp(1, 0, 20)), api.OK)
	// One edge that leads to itself.
	l = laid([]int{10})
	l.Joints = []api.Joint{joined(0, 0, 0, 1)}
	expectStretch(t, l, api.Pos{At: 7}, 5, spans(sp(0, 0, 2), sp(0, 7, 10)), api.OK)
	expectStretch(t, l, api.Pos{At: 7}, 393, spans(sp(0, 0, 10)), api.OK)
	expectStretch(t, l, api.Pos{At: 7}, 394, nil, api.ErrArg)
	expectStretch(t, l, api.Pos{At: 7}, 403, nil, api.ErrArg)
	expectStretch(t, l, api.Pos{At: 7}, 404, nil, api.ErrLong)
	// A line of 40 edges.
	l = long(40)
	expectStretch(t, l, api.Pos{}, 160, wantOver(l, up(0, 39), api.Pos{}, 0, 160), api.OK)
	expectStretch(t, l, api.Pos{Edge: 39, At: 4, Rev: true}, 160, wantOver(l, up(0, 39), api.Pos{}, 0, 160), api.OK)
}
