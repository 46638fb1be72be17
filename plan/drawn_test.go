package plan

import (
	"math"
	"slices"
	"testing"

	"lineside/api"
	"lineside/lock"
	"lineside/place"
	"lineside/span"
	"lineside/topo"
)

// P17.1 to P17.8 over layouts, locks and authorities that are drawn.

// draw returns a function that returns numbers from 0 to n - 1, which depend on
// the seed alone.
func draw(seed uint64) func(n int) int {
	return func(n int) int {
		seed = seed*6364136223846793005 + 1442695040888963407
		return int(seed>>33) % n
	}
}

// drawn returns a valid layout: edges in a line or a ring, some of them turned, and
// some more joints. The edges have groups, a few have none; routes are over ways of
// up to three steps, and often follow one another.
func drawn(t *testing.T, roll func(n int) int) api.Topo {
	t.Helper()
	var l api.Topo
	most := []int{3, 12, 12, 100, 5000, 200000, 1000000}[roll(7)]
	for i := range 2 + roll(8) {
		l.Edges = append(l.Edges, 1+roll(most))
		for range []int{1, 1, 1, 2, 3, 0}[roll(6)] {
			l.Bals = append(l.Bals, api.Bal{ID: roll(4)*20000 + len(l.Bals), Edge: i, At: roll(l.Edges[i] + 1)})
		}
	}
	if len(l.Bals) == 0 {
		l.Bals = []api.Bal{{ID: 5}}
	}
	for i := len(l.Bals) - 1; i > 0; i-- {
		j := roll(i + 1)
		l.Bals[i], l.Bals[j] = l.Bals[j], l.Bals[i]
	}
	addJoints(roll, &l)
	first := drawnStep(roll, l)
	for i := range 12 {
		path := drawnPath(roll, l, first, 1+roll(3))
		length, _ := topo.Length(l, path)
		first = drawnStep(roll, l)
		if after := topo.After(l, path[len(path)-1]); len(after) > 0 && roll(5) > 0 {
			first = after[0]
		}
		gap := []int{0, 0, 1, length / 2, length - 1}[roll(5)]
		addIfValid(&l, func(l *api.Topo) {
			l.Routes = append(l.Routes, api.Route{ID: 1 + i, Path: path, Gap: gap, Timer: 1 + roll(1000)})
		})
	}
	if topo.Check(l) != api.OK {
		t.Fatalf("%+v", l)
	}
	return l
}

// addIfValid changes a layout, and leaves it as it was if the change makes it one
// that is not valid.
func addIfValid(l *api.Topo, change func(l *api.Topo)) {
	other := *l
	change(&other)
	if topo.Check(other) == api.OK {
		*l = other
	}
}

func addJoints(roll func(n int) int, l *api.Topo) {
	last := 1
	for i := range l.Edges[1:] {
		enter := roll(5) / 4
		l.Joints = append(l.Joints, joined(i, last, i+1, enter))
		last = 1 - enter
	}
	if roll(3) == 0 {
		addIfValid(l, func(l *api.Topo) { l.Joints = append(l.Joints, joined(len(l.Edges)-1, last, 0, 0)) })
	}
	for range roll(3) {
		j := joined(roll(len(l.Edges)), roll(2), roll(len(l.Edges)), roll(2))
		addIfValid(l, func(l *api.Topo) { l.Joints = append(l.Joints, j) })
	}
}

func drawnStep(roll func(n int) int, l api.Topo) api.Step {
	return api.Step{Edge: roll(len(l.Edges)), Rev: roll(2) == 0}
}

// drawnPath returns a way over l of at most size steps from s on, no two of them
// over the same edge.
func drawnPath(roll func(n int) int, l api.Topo, s api.Step, size int) []api.Step {
	path := []api.Step{s}
	for len(path) < size {
		after := slices.DeleteFunc(topo.After(l, path[len(path)-1]), func(s api.Step) bool {
			return slices.ContainsFunc(path, func(other api.Step) bool { return other.Edge == s.Edge })
		})
		if len(after) == 0 {
			break
		}
		path = append(path, after[roll(len(after))])
	}
	return path
}

// drawnLocks returns locks for two trains in any order, a few of them on routes
// that the layout does not have.
func drawnLocks(roll func(n int) int, l api.Topo) []api.Lock {
	var list []api.Lock
	for _, r := range l.Routes {
		if roll(5) > 0 {
			list = append(list, lk(r.ID, 5+roll(5)/4))
		}
	}
	if roll(4) == 0 {
		list = append(list, lk([]int{0, 99, -1}[roll(3)], 5))
	}
	for i := len(list) - 1; i > 0; i-- {
		j := roll(i + 1)
		list[i], list[j] = list[j], list[i]
	}
	return list
}

// drawnMA returns a valid authority, if the group that is drawn has one.
func drawnMA(roll func(n int) int, l api.Topo) (api.MA, bool) {
	b := l.Bals[roll(len(l.Bals))]
	m := api.MA{Ref: b.ID, Rev: roll(2) == 0}
	m.Path = drawnPath(roll, l, api.Step{Edge: b.Edge, Rev: m.Rev}, 1+roll(10))
	length := wantLength(l, m)
	most := []int{length, length, length, min(length, 32766), min(length, 327660)}[roll(5)]
	if length < 1 {
		return api.MA{}, false
	}
	var tos []int
	for range 1 + roll(8) {
		tos = append(tos, 1+roll(most))
	}
	slices.Sort(tos)
	for _, to := range slices.Compact(tos) {
		m.Sects = append(m.Sects, sect(to, 1+roll(1000)))
	}
	rest := most - m.Sects[len(m.Sects)-1].To
	m.Gap = []int{0, roll(rest + 1), rest, min(rest, roll(100))}[roll(4)]
	return m, true
}

// wrongs returns a number, as a rule one that is out of range somewhere.
func wrongs(roll func(n int) int) int {
	list := []int{math.MinInt, -1, 0, 1, 2, 3, 7, 8, 24, 999, 1000, 1001, 16383, 16384, 32766, 32767, 1 << 24, 1 << 32, 1<<40 + 1, math.MaxInt}
	return list[roll(len(list))]
}

// change changes one thing about an authority.
func change(roll func(n int) int, m *api.MA) {
	m.Path, m.Sects = slices.Clone(m.Path), slices.Clone(m.Sects)
	s, step := &m.Sects[roll(len(m.Sects))], &m.Path[roll(len(m.Path))]
	switch roll(8) {
	case 0:
		m.Rev = !m.Rev
	case 1:
		step.Rev = !step.Rev
	case 2:
		m.Path = append(m.Path, m.Path[roll(len(m.Path))])
	case 3:
		m.Sects = append(m.Sects, *s)
	case 4:
		m.Sects = m.Sects[:roll(len(m.Sects))]
	default:
		list := []*int{&m.Ref, &m.Gap, &step.Edge, &s.To, &s.Timer, &m.Sects[len(m.Sects)-1].To}
		*list[roll(len(list))] = wrongs(roll)
	}
}

// Chains and authorities that are built of drawn locks.
func TestDrawnBuilds(t *testing.T) {
	errs, lengths, sections := map[api.Errno]int{}, map[int]int{}, map[int]int{}
	for seed := range 3000 {
		roll := draw(uint64(seed))
		l := drawn(t, roll)
		list := drawnLocks(roll, l)
		for range 4 {
			s, train := drawnStep(roll, l), 5+roll(3)/2
			want := wantChain(l, list, train, s)
			expectChain(t, l, list, train, s, want...)
			lengths[len(want)]++
			ref, n := l.Bals[roll(len(l.Bals))].ID+roll(20)/19, roll(3)*roll(1+3*slices.Max(l.Edges))-roll(50)/49
			rev := roll(2) == 0
			m, err := wantBuild(l, list, train, ref, rev, n)
			expectBuild(t, l, list, train, ref, rev, n, m, err)
			errs[err]++
			sections[len(m.Sects)]++
		}
	}
	for _, err := range []api.Errno{api.OK, api.ErrArg, api.ErrLong, api.ErrNone, api.ErrEnd, api.ErrFork} {
		if errs[err] < 60 {
			t.Errorf("error %d only %d times", err, errs[err])
		}
	}
	if lengths[1] < 1000 || lengths[2] < 500 || lengths[3] < 150 || sections[1] < 500 || sections[3] < 100 {
		t.Errorf("%v %v", lengths, sections)
	}
}

// What lies between the front and the end of an authority, and its Gap, is locked
// for the train; and an authority that is built is valid.
func TestBuiltIsLocked(t *testing.T) {
	count, ahead := 0, 0
	for seed := range 6000 {
		roll := draw(uint64(seed) + 1<<40)
		l := drawn(t, roll)
		list := drawnLocks(roll, l)
		b := l.Bals[roll(len(l.Bals))]
		n := roll(4) * roll(1+slices.Max(l.Edges))
		m, err := Build(l, list, 5, b.ID, roll(2) == 0, n)
		if err != api.OK {
			continue
		}
		count++
		if !May(l, m) {
			t.Fatalf("%+v: %+v", l, m)
		}
		end := m.Sects[len(m.Sects)-1].To
		extent, err := Extent(l, m, n, end+m.Gap)
		if err != api.OK || span.Total(extent) != end+m.Gap-n || !span.Within(extent, lock.Locked(l, list, 5)) {
			t.Fatalf("%+v, %+v: %+v, %d: %v %d", l, list, m, n, extent, err)
		}
		front, _ := place.Locate(l, m.Ref, m.Rev, n)
		if first, err := Stretch(l, front, 1); err == api.OK && !span.Within(first, extent) {
			t.Fatalf("%+v, %+v: %+v, %d: %v is not in %v", l, list, m, n, first, extent)
		}
		if n > 0 && len(m.Path) > 1 {
			ahead++
		}
	}
	if count < 900 || ahead < 300 {
		t.Errorf("%d, %d", count, ahead)
	}
}

// Drawn authorities, valid and not: all calls that are handed one.
func TestDrawnAuthorities(t *testing.T) {
	mays, packs, extents := map[bool]int{}, map[api.Errno]int{}, map[api.Errno]int{}
	for seed := range 4000 {
		roll := draw(uint64(seed) + 1<<41)
		l := drawn(t, roll)
		m, ok := drawnMA(roll, l)
		if !ok {
			continue
		}
		expectMay(t, l, m, true)
		if roll(2) == 0 {
			change(roll, &m)
		}
		may := wantMay(l, m)
		expectMay(t, l, m, may)
		mays[may]++
		list, err := wantPackets(l, m)
		expectPackets(t, l, m, list, err)
		packs[err]++
		for _, age := range []int{roll(1000), wrongs(roll)} {
			expectReach(t, m, age, wantReach(m, age))
		}
		most := 1
		if len(m.Sects) > 0 {
			most = min(max(m.Sects[len(m.Sects)-1].To, 1), 1<<30)
		}
		for _, to := range []int{roll(most + 2), wrongs(roll)} {
			expectCut(t, m, to, wantCut(m, to))
			from := roll(3) * roll(most)
			spans, err := wantExtent(l, m, from, to)
			expectExtent(t, l, m, from, to, spans, err)
			extents[err]++
		}
	}
	if mays[true] < 1500 || mays[false] < 500 || extents[api.OK] < 300 || extents[api.ErrArg] < 300 {
		t.Errorf("%v %v", mays, extents)
	}
	if packs[api.OK] < 500 || packs[api.ErrArg] < 500 || packs[api.ErrRange] < 100 {
		t.Errorf("%v", packs)
	}
}

// Reading what is told of an authority yields it again, with each To and the Gap
// rounded down by less than one unit; what is told of that one yields it unchanged.
func TestDrawnAuthoritiesAreReadAgain(t *testing.T) {
	scales := map[int]int{}
	for seed := range 12000 {
		roll := draw(uint64(seed) + 1<<42)
		l := drawn(t, roll)
		m, ok := drawnMA(roll, l)
		list, err := Packets(l, m)
		if !ok || err != api.OK {
			continue
		}
		scale := list[0].V[1]
		unit := []int{1, 10, 100}[scale]
		scales[scale]++
		r, err := Read(l, m.Ref, m.Rev, list)
		if err != api.OK || !May(l, r) {
			t.Fatalf("%+v, %+v: %+v %d", l, m, r, err)
		}
		want := m
		want.Sects, want.Gap = slices.Clone(m.Sects), m.Gap/unit*unit
		for i, s := range m.Sects {
			want.Sects[i].To = s.To / unit * unit
		}
		if !sameMA(r, want) {
			t.Fatalf("%+v, %+v: %+v, want %+v", l, m, r, want)
		}
		end, rEnd := m.Sects[len(m.Sects)-1].To, r.Sects[len(r.Sects)-1].To
		whole, _ := Extent(l, m, 0, end+m.Gap)
		part, err := Extent(l, r, 0, rEnd+r.Gap)
		if err != api.OK || !span.Within(part, whole) || end-rEnd >= unit || rEnd > end {
			t.Fatalf("%+v: %+v: %v is not in %v", m, r, part, whole)
		}
		for range 3 {
			if age := roll(1001); Reach(r, age) > Reach(m, age) || Reach(m, age)-Reach(r, age) >= unit {
				t.Fatalf("%+v: %+v: at %d", m, r, age)
			}
		}
	}
	if scales[0] < 2000 || scales[1] < 150 || scales[2] < 200 {
		t.Errorf("%v", scales)
	}
}

// Packets in which one or two numbers were changed.
func TestDrawnReadings(t *testing.T) {
	errs := map[api.Errno]int{}
	for seed := range 12000 {
		roll := draw(uint64(seed) + 1<<43)
		l := drawn(t, roll)
		m, ok := drawnMA(roll, l)
		list, err := Packets(l, m)
		if !ok || err != api.OK {
			continue
		}
		ref, rev := m.Ref, m.Rev != (roll(20) == 0)
		for range roll(3) {
			v := list[roll(len(list))].V
			if i := roll(len(v)); roll(2) == 0 {
				v[i] = 1 - min(v[i], 1)
			} else {
				v[i] = wrongs(roll)
			}
		}
		switch roll(20) {
		case 0:
			ref = wrongs(roll)
		case 1:
			list = list[:len(list)-1]
		case 2:
			list = append(list, list...)
		case 3:
			slices.Reverse(list)
		case 4:
			l.Edges[roll(len(l.Edges))] = wrongs(roll)
		}
		want, err := wantRead(l, ref, rev, list)
		expectRead(t, l, ref, rev, list, want, err)
		errs[err]++
	}
	for _, err := range []api.Errno{api.OK, api.ErrArg, api.ErrNone, api.ErrRange, api.ErrValue, api.ErrPacket, api.ErrEnd} {
		if errs[err] < 40 {
			t.Errorf("error %d only %d times", err, errs[err])
		}
	}
}

// Entries of packet 5 that are drawn, among them ones that are ignored or that lead
// over an edge again.
func TestDrawnLinks(t *testing.T) {
	errs := map[api.Errno]int{}
	for seed := range 4000 {
		roll := draw(uint64(seed) + 1<<44)
		l := drawn(t, roll)
		b := l.Bals[roll(len(l.Bals))]
		rev := roll(2) == 0
		x := told{dir: direct(rev), sections: []section{{1, 1, 9, 0}}, end: []int{0}, danger: []int{0}, overlap: []int{0}}
		last := api.Step{Edge: b.Edge, Rev: rev}
		for range 1 + roll(12) {
			if after := topo.After(l, last); len(after) > 0 && roll(4) > 0 {
				last = after[roll(len(after))]
			}
			on := slices.DeleteFunc(slices.Clone(l.Bals), func(b api.Bal) bool { return b.Edge != last.Edge })
			if len(on) == 0 {
				break
			}
			c := on[roll(len(on))]
			rev := last.Rev != (roll(20) == 0)
			x.links = append(x.links, entry{roll(32768), 1, c.ID / 16384, c.ID % 16384, direct(rev), roll(3), roll(64)})
		}
		want, err := wantRead(l, b.ID, rev, x.packets())
		expectRead(t, l, b.ID, rev, x.packets(), want, err)
		errs[err]++
	}
	for _, err := range []api.Errno{api.OK, api.ErrLong, api.ErrEnd, api.ErrRange} {
		if errs[err] < 60 {
			t.Errorf("error %d only %d times", err, errs[err])
		}
	}
}

// Reach never increases with age, and never goes beyond the end.
func TestReachNeverIncreases(t *testing.T) {
	falls := 0
	for seed := range 3000 {
		roll := draw(uint64(seed) + 1<<45)
		m, ok := drawnMA(roll, drawn(t, roll))
		if !ok {
			continue
		}
		for i := range m.Sects {
			m.Sects[i].Timer = 1 + roll(30)
		}
		last := m.Sects[len(m.Sects)-1].To
		for age := -1; age < 32; age++ {
			n := Reach(m, age)
			if n > last || age <= 0 && n != last || age == 31 && n != 0 || n != wantReach(m, age) {
				t.Fatalf("%+v, %d: %d after %d", m, age, n, last)
			}
			if n < last {
				falls++
			}
			last = n
		}
	}
	if falls < 4000 {
		t.Errorf("%d", falls)
	}
}

// Cut never extends an authority: neither what it is over, nor how far it goes at
// any age; and a cut authority goes no further than it was cut to.
func TestCutNeverExtends(t *testing.T) {
	count := 0
	for seed := range 6000 {
		roll := draw(uint64(seed) + 1<<46)
		l := drawn(t, roll)
		m, ok := drawnMA(roll, l)
		if !ok {
			continue
		}
		end := m.Sects[len(m.Sects)-1].To
		to := 1 + roll(end+end/4+1)
		c := Cut(m, to)
		last := c.Sects[len(c.Sects)-1].To
		whole, _ := Extent(l, m, 0, end+m.Gap)
		part, err := Extent(l, c, 0, last+c.Gap)
		if !May(l, c) || err != api.OK || !span.Within(part, whole) || last != min(to, end) {
			t.Fatalf("%+v, %d: %+v %v %v", m, to, c, part, whole)
		}
		for _, age := range []int{-1, 0, roll(1000), roll(1000), 1000} {
			if n := Reach(c, age); n != min(Reach(m, age), to) {
				t.Fatalf("%+v, %d: %+v: %d at %d", m, to, c, n, age)
			}
		}
		if again := Cut(c, to); !sameMA(again, c) {
			t.Fatalf("%+v, %d: %+v", c, to, again)
		}
		count++
	}
	if count < 4000 {
		t.Errorf("%d", count)
	}
}

func TestDrawnStretches(t *testing.T) {
	errs := map[api.Errno]int{}
	for seed := range 6000 {
		roll := draw(uint64(seed) + 1<<47)
		l := drawn(t, roll)
		edge := roll(len(l.Edges))
		p := api.Pos{Edge: edge, At: roll(l.Edges[edge] + 1), Rev: roll(2) == 0}
		n := roll([]int{2, 20, 3000, 60000000}[roll(4)])
		if roll(20) == 0 {
			*[]*int{&p.Edge, &p.At, &n}[roll(3)] = wrongs(roll)
		}
		want, err := wantStretch(l, p, n)
		expectStretch(t, l, p, n, want, err)
		errs[err]++
	}
	for _, err := range []api.Errno{api.OK, api.ErrArg, api.ErrLong, api.ErrFork, api.ErrEnd} {
		if errs[err] < 60 {
			t.Errorf("error %d only %d times", err, errs[err])
		}
	}
}

// An extent of a built authority is what a walk of the same length traverses, and
// it is the sum of its parts.
func TestExtentInParts(t *testing.T) {
	count := 0
	for seed := range 4000 {
		roll := draw(uint64(seed) + 1<<48)
		l := drawn(t, roll)
		m, ok := drawnMA(roll, l)
		if !ok {
			continue
		}
		end := m.Sects[len(m.Sects)-1].To + m.Gap
		at := roll(end + 1)
		a, err := Extent(l, m, 0, at)
		b, err2 := Extent(l, m, at, end)
		whole, err3 := Extent(l, m, 0, end)
		if err != api.OK || err2 != api.OK || err3 != api.OK || !slices.Equal(span.Union(a, b), whole) || span.Meets(a, b) {
			t.Fatalf("%+v, %d: %v %v %v", m, at, a, b, whole)
		}
		g, _ := wantGroup(l, m.Ref)
		walk, err := Stretch(l, api.Pos{Edge: g.Edge, At: g.At, Rev: m.Rev}, at)
		if err != api.OK {
			continue
		}
		if !slices.Equal(walk, a) {
			t.Fatalf("%+v, %d: %v, want %v", m, at, walk, a)
		}
		count++
	}
	if count < 1000 {
		t.Errorf("%d", count)
	}
}

// R5: nothing is kept between calls, so layouts and authorities do not affect one
// another.
func TestCallsAreApart(t *testing.T) {
	for range 3 {
		l, list := example()
		expectBuild(t, l, list, 5, 7, false, 40, fwd(7, 0, over(0, 1), sect(290, 30)), api.OK)
		expectBuild(t, line(), locks(5, 1, 2), 5, 50, false, 40, fwd(50, 30, up(0, 2), sect(250, 10), sect(520, 20)), api.OK)
		expectChain(t, l, list, 6, on(0))
		expectChain(t, tracks(), locks(5, 1, 2), 5, on(1), locks(5, 1)...)
		r, m := readable()
		r.expect(t, m, api.OK)
		r, m = readableBack()
		r.expect(t, m, api.OK)
		expectReadFails(t, l, 7, false, nil, api.ErrPacket)
		expectStretch(t, l, api.Pos{}, 1, spans(sp(0, 0, 1)), api.OK)
		expectReach(t, m, 5, 300)
		expectCut(t, m, 0, rev(53, 0, down(3, 0)))
	}
}
