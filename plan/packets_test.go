package plan

import (
	"math"
	"slices"
	"testing"

	"lineside/api"
	"lineside/packet"
)

// told is what packets tell of an authority: the numbers of packet 15 and, if there
// are links, of packet 5, in their order.
type told struct {
	dir, scale, speed, time int
	sections                []section
	end, danger, overlap    []int
	linkDir, linkScale      int
	links                   []entry
}

type section struct{ length, timed, timer, stop int }

type entry struct{ link, told, country, group, orientation, reaction, accuracy int }

func (s section) numbers() []int {
	if s.timed == 0 {
		return []int{s.length, 0}
	}
	return []int{s.length, s.timed, s.timer, s.stop}
}

func (e entry) numbers() []int {
	if e.told == 0 {
		return []int{e.link, 0, e.group, e.orientation, e.reaction, e.accuracy}
	}
	return []int{e.link, e.told, e.country, e.group, e.orientation, e.reaction, e.accuracy}
}

// authority returns packet 15.
func (x told) authority() api.Packet {
	v := []int{x.dir, x.scale, x.speed, x.time, len(x.sections) - 1}
	for _, s := range x.sections {
		v = append(v, s.numbers()...)
	}
	return api.Packet{ID: 15, V: slices.Concat(v, x.end, x.danger, x.overlap)}
}

// linking returns packet 5.
func (x told) linking() api.Packet {
	v := append([]int{x.linkDir, x.linkScale}, x.links[0].numbers()...)
	v = append(v, len(x.links)-1)
	for _, e := range x.links[1:] {
		v = append(v, e.numbers()...)
	}
	return api.Packet{ID: 5, V: v}
}

func (x told) packets() []api.Packet {
	if len(x.links) == 0 {
		return []api.Packet{x.authority()}
	}
	return []api.Packet{x.authority(), x.linking()}
}

// pk writes packets.
func pk(id int, v ...int) api.Packet { return api.Packet{ID: id, V: v} }

func pks(list ...api.Packet) []api.Packet { return list }

func expectPackets(t *testing.T, l api.Topo, m api.MA, want []api.Packet, wantErr api.Errno) {
	t.Helper()
	g := given{l: l, m: m}
	list, err := wantPackets(l, m)
	agree(t, "Packets", g, answer{p: list, err: err}, answer{p: want, err: wantErr})
	expect(t, "Packets", g, func(g given) answer {
		list, err := Packets(g.l, g.m)
		return answer{p: list, err: err}
	}, answer{p: want, err: wantErr})
	for _, p := range want {
		if _, err := packet.Items(p); err != api.OK {
			t.Fatalf("%+v: %d", p, err)
		}
	}
}

// expectPacketsFail checks that Packets has an error, and nothing beside it.
func expectPacketsFail(t *testing.T, l api.Topo, m api.MA, want api.Errno) {
	t.Helper()
	expectPackets(t, l, m, nil, want)
}

func expectRead(t *testing.T, l api.Topo, ref int, rev bool, list []api.Packet, want api.MA, wantErr api.Errno) {
	t.Helper()
	g := given{l: l, p: list}
	m, err := wantRead(l, ref, rev, list)
	agree(t, "Read", g, answer{m: m, err: err}, answer{m: want, err: wantErr}, ref, rev)
	expect(t, "Read", g, func(g given) answer {
		m, err := Read(g.l, ref, rev, g.p)
		return answer{m: m, err: err}
	}, answer{m: want, err: wantErr}, ref, rev)
}

// expectReadFails checks that Read has an error, and nothing beside it.
func expectReadFails(t *testing.T, l api.Topo, ref int, rev bool, list []api.Packet, want api.Errno) {
	t.Helper()
	expectRead(t, l, ref, rev, list, api.MA{}, want)
}

// expectBoth checks what Packets tells of an authority, and that Read reads it.
func expectBoth(t *testing.T, l api.Topo, m api.MA, read api.MA, want ...api.Packet) {
	t.Helper()
	expectPackets(t, l, m, want, api.OK)
	expectRead(t, l, m.Ref, m.Rev, want, read, api.OK)
}

// P17.5: Packets

func TestPacketsOfOneStep(t *testing.T) {
	l := line()
	m := fwd(50, 0, over(0), sect(50, 1))
	expectBoth(t, l, m, m, pk(15, 1, 0, 0, 0, 0, 50, 1, 1, 0, 0, 0, 0))
	m = rev(53, 0, home(3), sect(200, 1000))
	expectBoth(t, l, m, m, pk(15, 0, 0, 0, 0, 0, 200, 1, 1000, 0, 0, 0, 0))
	m = fwd(51, 7, over(1), sect(10, 5), sect(30, 6), sect(31, 4))
	expectBoth(t, l, m, m, pk(15, 1, 0, 0, 0, 2, 10, 1, 5, 0, 20, 1, 6, 0, 1, 1, 4, 0, 0, 1, 7, 0, 0))
	m = rev(51, 1, home(1), sect(1, 2), sect(3, 2))
	expectBoth(t, l, m, m, pk(15, 0, 0, 0, 0, 1, 1, 1, 2, 0, 2, 1, 2, 0, 0, 1, 1, 0, 0))
}

func TestPacketsOfSeveralSteps(t *testing.T) {
	l := line()
	l.Bals[1].At, l.Bals[2].ID, l.Bals[3].ID = 20, 16384, 3*16384+70
	m := fwd(50, 0, over(0, 1), sect(250, 30))
	expectBoth(t, l, m, m,
		pk(15, 1, 0, 0, 0, 0, 250, 1, 30, 0, 0, 0, 0),
		pk(5, 1, 0, 70, 1, 0, 51, 1, 2, 12, 0))
	m = fwd(50, 5, up(0, 3), sect(1, 1), sect(800, 1000))
	expectBoth(t, l, m, m,
		pk(15, 1, 0, 0, 0, 1, 1, 1, 1, 0, 799, 1, 1000, 0, 0, 1, 5, 0, 0),
		pk(5, 1, 0, 70, 1, 0, 51, 1, 2, 12, 2, 330, 1, 1, 0, 1, 2, 12, 350, 1, 3, 70, 1, 2, 12))
	m = rev(3*16384+70, 0, down(3, 0), sect(800, 9))
	expectBoth(t, l, m, m,
		pk(15, 0, 0, 0, 0, 0, 800, 1, 9, 0, 0, 0, 0),
		pk(5, 0, 0, 350, 1, 1, 0, 0, 2, 12, 2, 330, 1, 0, 51, 0, 2, 12, 70, 1, 0, 50, 0, 2, 12))
}

// A path whose steps have different directions: each entry tells that of its step,
// but both packets that of the authority.
func TestPacketsOfBothDirections(t *testing.T) {
	l := laid([]int{100, 200, 300})
	l.Joints = []api.Joint{joined(0, 1, 1, 1), joined(1, 0, 2, 0)}
	m := fwd(50, 0, []api.Step{on(0), back(1), on(2)}, sect(500, 9))
	expectBoth(t, l, m, m,
		pk(15, 1, 0, 0, 0, 0, 500, 1, 9, 0, 0, 0, 0),
		pk(5, 1, 0, 150, 1, 0, 51, 0, 2, 12, 1, 250, 1, 0, 52, 1, 2, 12))
	m = rev(52, 0, []api.Step{back(2), on(1), back(0)}, sect(400, 9))
	expectBoth(t, l, m, m,
		pk(15, 0, 0, 0, 0, 0, 400, 1, 9, 0, 0, 0, 0),
		pk(5, 0, 0, 250, 1, 0, 51, 1, 2, 12, 1, 150, 1, 0, 50, 0, 2, 12))
}

func TestPacketsOfAuthoritiesThatAreNotValid(t *testing.T) {
	for _, m := range valid() {
		for _, l := range invalid() {
			expectPacketsFail(t, l, m, api.ErrArg)
		}
		for _, spoil := range []func(m *api.MA){
			func(m *api.MA) { m.Ref = 7 }, func(m *api.MA) { m.Rev = !m.Rev }, func(m *api.MA) { m.Path = nil },
			func(m *api.MA) { m.Path = append(slices.Clone(m.Path), m.Path[0]) }, func(m *api.MA) { m.Gap = -1 },
			func(m *api.MA) { m.Gap = 951 }, func(m *api.MA) { m.Sects = nil }, func(m *api.MA) { m.Sects = slices.Repeat(m.Sects, 2) },
			func(m *api.MA) { m.Sects = sects(sect(far(*m)+1, 1)) }, func(m *api.MA) { m.Sects = sects(sect(1, 1001)) },
			func(m *api.MA) { m.Sects = sects(sect(4000000, 1)) }, func(m *api.MA) { m.Gap = math.MaxInt },
		} {
			other := m
			spoil(&other)
			expectPacketsFail(t, line(), other, api.ErrArg)
		}
	}
	expectPacketsFail(t, api.Topo{}, api.MA{}, api.ErrArg)
}

// scaled returns two edges of the greatest length, on which the distances of an
// authority reach beyond all scales, and more edges behind them.
func scaled() api.Topo { return laid(slices.Repeat([]int{1000000}, 5)) }

// The scale is that of the last To and the Gap together.
func TestPacketsInEachScale(t *testing.T) {
	l := scaled()
	l.Bals[0].At, l.Bals[4].At = 0, 1000000
	far := map[int]int{1: 0, 32766: 0, 32767: 1, 327651: 1, 327660: 1, 327661: 2, 3276501: 2, 3276600: 2, 3276601: -1, 5000000: -1}
	for n, want := range far {
		for _, gap := range []int{0, 1, 7, 500, n - 1} {
			if gap < 0 || gap >= n {
				continue
			}
			for _, m := range []api.MA{fwd(50, gap, up(0, 4), sect(n-gap, 10)), rev(54, gap, down(4, 0), sect(n-gap, 10))} {
				list, err := wantPackets(l, m)
				switch {
				case want < 0 && err != api.ErrRange:
					t.Fatalf("%+v: %d", m, err)
				case err == api.OK && list[0].V[1] != want:
					t.Fatalf("%+v: %+v", m, list)
				}
				expectPackets(t, l, m, list, err)
			}
		}
	}
	// Where the entries are too far from one another, a path of one step has a scale.
	m := fwd(50, 2, over(0), sect(32764, 10))
	expectBoth(t, l, m, m, pk(15, 1, 0, 0, 0, 0, 32764, 1, 10, 0, 0, 1, 2, 0, 0))
	m = fwd(50, 3, over(0), sect(32764, 10))
	expectBoth(t, l, m, fwd(50, 0, over(0), sect(32760, 10)), pk(15, 1, 1, 0, 0, 0, 3276, 1, 10, 0, 0, 0, 0))
	m = fwd(50, 19, over(0), sect(9, 1), sect(32769, 10))
	expectPacketsFail(t, l, m, api.ErrRange)
	m.Sects[0].To = 10
	expectBoth(t, l, m, fwd(50, 10, over(0), sect(10, 1), sect(32760, 10)), pk(15, 1, 1, 0, 0, 1, 1, 1, 1, 0, 3275, 1, 10, 0, 0, 1, 1, 0, 0))
	m = fwd(50, 399, over(0), sect(299, 3), sect(300, 2), sect(500099, 10))
	expectBoth(t, l, m, fwd(50, 300, over(0), sect(200, 3), sect(300, 2), sect(500000, 10)),
		pk(15, 1, 2, 0, 0, 2, 2, 1, 3, 0, 1, 1, 2, 0, 4997, 1, 10, 0, 0, 1, 3, 0, 0))
	m = rev(54, 99, home(4), sect(999901, 10))
	expectBoth(t, l, m, rev(54, 0, home(4), sect(999900, 10)), pk(15, 0, 2, 0, 0, 0, 9999, 1, 10, 0, 0, 0, 0))
	m = rev(54, 100, home(4), sect(999900, 10))
	expectBoth(t, l, m, m, pk(15, 0, 2, 0, 0, 0, 9999, 1, 10, 0, 0, 1, 1, 0, 0))
}

// A section that is rounded down to nothing, in each place.
func TestPacketsOfSectionsOfNothing(t *testing.T) {
	l := scaled()
	l.Bals[0].At = 0
	for _, x := range []struct {
		unit int
		m    api.MA
		err  api.Errno
	}{
		{10, fwd(50, 0, over(0), sect(10, 1), sect(20, 1), sect(327660, 1)), api.OK},
		{10, fwd(50, 0, over(0), sect(19, 1), sect(20, 1), sect(327660, 1)), api.OK},
		{10, fwd(50, 0, over(0), sect(9, 1), sect(20, 1), sect(327660, 1)), api.ErrRange},
		{10, fwd(50, 0, over(0), sect(10, 1), sect(19, 1), sect(327660, 1)), api.ErrRange},
		{10, fwd(50, 0, over(0), sect(11, 1), sect(19, 1), sect(327660, 1)), api.ErrRange},
		{10, fwd(50, 0, over(0), sect(19, 1), sect(20, 1), sect(29, 1), sect(30, 1), sect(327660, 1)), api.ErrRange},
		{10, fwd(50, 0, over(0), sect(327650, 1), sect(327659, 1)), api.ErrRange},
		{10, fwd(50, 0, over(0), sect(327649, 1), sect(327651, 1)), api.OK},
		{10, fwd(50, 327650, over(0), sect(9, 1)), api.ErrRange},
		{10, fwd(50, 327650, over(0), sect(10, 1)), api.OK},
		{100, fwd(50, 0, over(0), sect(99, 1), sect(400000, 1)), api.ErrRange},
		{100, fwd(50, 0, over(0), sect(100, 1), sect(199, 1), sect(400000, 1)), api.ErrRange},
		{100, fwd(50, 0, over(0), sect(100, 1), sect(200, 1), sect(400000, 1)), api.OK},
		{100, fwd(50, 0, over(0), sect(199, 1), sect(200, 1), sect(400000, 1), sect(400099, 1)), api.ErrRange},
		{1, fwd(50, 0, over(0), sect(1, 1), sect(2, 1), sect(3, 1), sect(32766, 1)), api.OK},
	} {
		list, err := wantPackets(l, x.m)
		if err != x.err || err == api.OK && x.unit != []int{1, 10, 100}[list[0].V[1]] {
			t.Fatalf("%+v: %+v %d", x, list, err)
		}
		expectPackets(t, l, x.m, list, err)
	}
}

func TestPacketsWithTheMostSectionsAndSteps(t *testing.T) {
	l := long(40)
	m := fwd(50, 3, up(0, 23))
	v := []int{1, 0, 0, 0, 7}
	for i := range 8 {
		m.Sects = append(m.Sects, sect(5*i+2, 1000-i))
		v = append(v, min(5, 5*i+2), 1, 1000-i, 0)
	}
	links := []int{1, 0, 4, 1, 0, 51, 1, 2, 12, 22}
	for i := range 22 {
		links = append(links, 4, 1, 0, 52+i, 1, 2, 12)
	}
	expectBoth(t, l, m, m, pk(15, append(v, 0, 1, 3, 0, 0)...), pk(5, links...))
}

func TestPacketsOfGroups(t *testing.T) {
	for _, id := range []int{0, 1, 16383, 16384, 16385, 32767, 32768, 70000, 1 << 20, 1<<24 - 16385, 1<<24 - 16384, 1<<24 - 2} {
		l := laid([]int{100, 200})
		l.Bals[1].ID = id
		m := fwd(50, 0, over(0, 1), sect(250, 1))
		expectBoth(t, l, m, m, pk(15, 1, 0, 0, 0, 0, 250, 1, 1, 0, 0, 0, 0), pk(5, 1, 0, 150, 1, id/16384, id%16384, 1, 2, 12, 0))
		m = rev(id, 0, home(1, 0), sect(200, 1))
		expectBoth(t, l, m, m, pk(15, 0, 0, 0, 0, 0, 200, 1, 1, 0, 0, 0, 0), pk(5, 0, 0, 150, 1, 0, 50, 0, 2, 12, 0))
	}
}

// Of several groups on an edge the first one of the layout's list is told, wherever
// it lies; the distance is that from Ref, or from the one that was told before.
func TestPacketsOfEdgesWithSeveralGroups(t *testing.T) {
	l := laid([]int{100, 200, 300})
	l.Bals = []api.Bal{{ID: 9, Edge: 1, At: 200}, {ID: 1, Edge: 0, At: 10}, {ID: 2, Edge: 0, At: 90}, {ID: 8, Edge: 1, At: 0}, {ID: 5, Edge: 2, At: 0}, {ID: 4, Edge: 2, At: 300}}
	head := pk(15, 1, 0, 0, 0, 0, 10, 1, 1, 0, 0, 0, 0)
	m := fwd(1, 0, up(0, 2), sect(10, 1))
	expectBoth(t, l, m, m, head, pk(5, 1, 0, 290, 1, 0, 9, 1, 2, 12, 1, 0, 1, 0, 5, 1, 2, 12))
	m.Ref = 2
	expectBoth(t, l, m, m, head, pk(5, 1, 0, 210, 1, 0, 9, 1, 2, 12, 1, 0, 1, 0, 5, 1, 2, 12))
	m = fwd(8, 0, up(1, 2), sect(10, 1))
	expectBoth(t, l, m, m, head, pk(5, 1, 0, 200, 1, 0, 5, 1, 2, 12, 0))
	head.V[0] = 0
	m = rev(4, 0, down(2, 0), sect(10, 1))
	expectBoth(t, l, m, m, head, pk(5, 0, 0, 300, 1, 0, 9, 0, 2, 12, 1, 290, 1, 0, 1, 0, 2, 12))
	l.Bals[0], l.Bals[3] = l.Bals[3], l.Bals[0]
	expectBoth(t, l, m, m, head, pk(5, 0, 0, 500, 1, 0, 8, 0, 2, 12, 1, 90, 1, 0, 1, 0, 2, 12))
}

func TestPacketsOfEdgesWithoutAGroup(t *testing.T) {
	for n := 1; n < 4; n++ {
		l := laid([]int{100, 200, 300, 400})
		l.Bals = slices.Delete(l.Bals, n, n+1)
		for last := range 4 {
			m := fwd(50, 0, up(0, last), sect(10, 1))
			list, err := wantPackets(l, m)
			if last < n != (err == api.OK) || last >= n && err != api.ErrArg {
				t.Fatalf("%d, %d: %d", n, last, err)
			}
			expectPackets(t, l, m, list, err)
		}
	}
	// The first edge is told by Ref.
	l := laid([]int{100, 200})
	l.Bals = []api.Bal{{ID: 1, Edge: 1}}
	expectPackets(t, l, fwd(1, 0, over(1), sect(10, 1)), pks(pk(15, 1, 0, 0, 0, 0, 10, 1, 1, 0, 0, 0, 0)), api.OK)
	expectPacketsFail(t, l, rev(1, 0, home(1, 0), sect(10, 1)), api.ErrArg)
}

// D_LINK in each scale, up to the greatest one and beyond it.
func TestPacketsOfLinksThatAreFar(t *testing.T) {
	for scale, unit := range []int{1, 10, 100} {
		to := []int{10, 32767, 327661}[scale]
		for _, first := range []int{0, 1, 5, 1000000} {
			for _, n := range []int{32765 * unit, 32766*unit - 1, 32766 * unit, 32767*unit - 1, 32767 * unit, 32767*unit + 1, 40000 * unit} {
				at := first + n - 1000000
				if at < 0 || at > 1000000 {
					continue
				}
				l := scaled()
				l.Bals[0].At, l.Bals[1].At = first, at
				want := api.Errno(api.OK)
				if n/unit > 32766 {
					want = api.ErrRange
				}
				m := fwd(50, 0, over(0, 1), sect(to, 1))
				list, err := wantPackets(l, m)
				if err != want || err == api.OK && (list[1].V[1] != scale || list[1].V[2] != n/unit) {
					t.Fatalf("%d, %d: %+v %d", scale, n, list, err)
				}
				expectPackets(t, l, m, list, err)
			}
		}
	}
	// The second entry is measured from the first one, not from Ref.
	l := laid([]int{20000, 20000, 20000})
	m := fwd(50, 0, up(0, 2), sect(10, 1))
	head := pk(15, 1, 0, 0, 0, 0, 10, 1, 1, 0, 0, 0, 0)
	expectBoth(t, l, m, m, head, pk(5, 1, 0, 20000, 1, 0, 51, 1, 2, 12, 1, 20000, 1, 0, 52, 1, 2, 12))
	m, head.V[0] = rev(52, 0, down(2, 0), sect(10, 1)), 0
	l.Edges[1], l.Bals[1].At = 22766, 22766
	expectBoth(t, l, m, m, head, pk(5, 0, 0, 10000, 1, 0, 51, 0, 2, 12, 1, 32766, 1, 0, 50, 0, 2, 12))
	l.Bals[0].At = 9999
	expectPacketsFail(t, l, m, api.ErrRange)
}

// Which error comes where several apply: those of packet 15 before those of packet
// 5, and of these the one of the first step that has one.
func TestPacketsErrorsInOrder(t *testing.T) {
	bare := scaled()
	bare.Bals = bare.Bals[:1]
	bare.Bals[0].At = 0
	for _, m := range []api.MA{fwd(50, 0, up(0, 4), sect(9, 1), sect(40000, 1)), fwd(50, 0, up(0, 4), sect(3276601, 1))} {
		expectPacketsFail(t, bare, m, api.ErrRange)
		m.Gap = -1
		expectPacketsFail(t, bare, m, api.ErrArg)
	}
	expectPacketsFail(t, bare, fwd(50, 0, up(0, 4), sect(10, 1)), api.ErrArg)
	// A step whose group is too far away, and one whose edge has no group.
	for _, rev := range []bool{false, true} {
		for far := 1; far < 5; far++ {
			for none := 1; none < 5; none++ {
				l := laid([]int{100, 100, 100, 100, 100})
				m := api.MA{Ref: 50, Path: up(0, 4), Sects: sects(sect(10, 1))}
				if rev {
					m = api.MA{Ref: 54, Rev: true, Path: down(4, 0), Sects: m.Sects}
				}
				edge := m.Path[far].Edge
				l.Edges[edge] = 40000
				l.Bals[edge].At = 40000 - 40000*direct(!rev)
				expectPacketsFail(t, l, m, api.ErrRange)
				edge = m.Path[none].Edge
				l.Bals = slices.Delete(l.Bals, edge, edge+1)
				want := api.Errno(api.ErrRange)
				if none <= far {
					want = api.ErrArg
				}
				expectPacketsFail(t, l, m, want)
			}
		}
	}
}

// P17.6: Read

// reading is what Read is handed: beside what packets tell, more may be done to them.
type reading struct {
	l    api.Topo
	ref  int
	rev  bool
	x    told
	more func(list []api.Packet) []api.Packet
}

func (r reading) packets() []api.Packet { return r.more(r.x.packets()) }

// readable returns what Read reads without an error. All that it does not look at
// has other values than those that Packets gives it.
func readable() (reading, api.MA) {
	x := told{
		dir: 1, scale: 1, speed: 120, time: 1023,
		sections: []section{{10, 1, 30, 0}, {20, 1, 1000, 32767}, {30, 1, 1, 5}},
		end:      []int{1, 1023, 32767}, danger: []int{1, 5, 126}, overlap: []int{1, 1, 2, 3, 4},
		linkDir: 2, linkScale: 2,
		links: []entry{{0, 1, 0, 51, 1, 0, 63}, {32767, 1, 4, 52, 1, 1, 0}, {7, 1, 0, 53, 1, 2, 7}},
	}
	l := ring([]int{100, 200, 300, 400, 500})
	l.Bals[2].ID += 4 * 16384
	r := reading{l: l, ref: 50, x: x, more: func(list []api.Packet) []api.Packet { return list }}
	return r, fwd(50, 50, up(0, 3), sect(100, 30), sect(300, 1000), sect(600, 1))
}

// readableBack returns the same for the other direction.
func readableBack() (reading, api.MA) {
	r, m := readable()
	r.ref, r.rev, r.x.dir, r.x.linkDir = 53, true, 0, 1
	r.x.links[0], r.x.links[1], r.x.links[2] = r.x.links[1], r.x.links[0], entry{0, 1, 0, 50, 0, 0, 0}
	r.x.links[0].orientation, r.x.links[1].orientation = 0, 0
	return r, rev(53, m.Gap, down(3, 0), m.Sects...)
}

func (r reading) expect(t *testing.T, want api.MA, wantErr api.Errno) {
	t.Helper()
	expectRead(t, r.l, r.ref, r.rev, r.packets(), want, wantErr)
}

func TestRead(t *testing.T) {
	r, m := readable()
	r.expect(t, m, api.OK)
	r, m = readableBack()
	r.expect(t, m, api.OK)
	r.rev = false
	r.expect(t, api.MA{}, api.ErrValue)
	expectRead(t, line(), 50, false, pks(pk(15, 1, 0, 0, 0, 0, 50, 1, 1, 0, 0, 0, 0)), fwd(50, 0, over(0), sect(50, 1)), api.OK)
	expectReadFails(t, line(), 50, false, pks(pk(15, 1, 0, 0, 0, 0, 51, 1, 1, 0, 0, 0, 0)), api.ErrRange)
}

// What else packet 15 may tell: an end timer, a danger point, an overlap.
func TestReadWithAndWithoutTheRest(t *testing.T) {
	for n := range 8 {
		for _, begin := range []func() (reading, api.MA){readable, readableBack} {
			r, m := begin()
			if n&1 == 0 {
				r.x.end = []int{0}
			}
			if n&2 == 0 {
				r.x.danger = []int{0}
				m.Gap = 0
			}
			if n&4 == 0 {
				r.x.overlap = []int{0}
			}
			r.expect(t, m, api.OK)
			r.x.links = nil
			r.expect(t, api.MA{}, api.ErrRange)
			r.x.sections = []section{{4, 1, 8, 0}}
			if m.Gap > 0 {
				r.x.danger[1] = 1
			}
			m.Path, m.Sects, m.Gap = m.Path[:1], sects(sect(40, 8)), m.Gap/5
			r.expect(t, m, api.OK)
		}
	}
}

func TestReadOnLayoutsThatAreNotValid(t *testing.T) {
	list := pks(pk(15, 1, 0, 0, 0, 0, 50, 1, 1, 0, 0, 0, 0))
	for _, l := range invalid() {
		expectReadFails(t, l, 50, false, list, api.ErrArg)
		expectReadFails(t, l, 7, false, list, api.ErrArg)
		expectReadFails(t, l, 50, true, nil, api.ErrArg)
	}
	expectReadFails(t, api.Topo{}, 50, false, list, api.ErrNone)
}

func TestReadOfRefs(t *testing.T) {
	r, _ := readable()
	for _, ref := range append(outside(50, 70000), 0, 7, 49, 52, 55) {
		r.ref = ref
		r.expect(t, api.MA{}, api.ErrNone)
	}
}

func TestReadOfFirstPackets(t *testing.T) {
	r, _ := readable()
	list := r.packets()
	read := func(list ...api.Packet) { t.Helper(); expectReadFails(t, r.l, 50, false, list, api.ErrPacket) }
	read()
	read(list[1])
	read(list[1], list[0])
	read(pk(57, 1, 5, 100, 7), list[0], list[1])
	for _, id := range append(outside(0, 255), 0, 1, 3, 5, 14, 16, 21, 255, 15+256) {
		first := list[0]
		first.ID = id
		read(first, list[1])
		read(first)
	}
}

// long27 returns a packet that has more bits than a packet may have.
func long27() api.Packet {
	v := slices.Concat([]int{1, 0, 0, 0, 0, 31}, make([]int, 62), []int{31})
	for range 31 {
		v = slices.Concat(v, []int{0, 0, 0, 31}, make([]int, 62))
	}
	return pk(27, v...)
}

// A packet that is not valid, wherever it stands and whatever is wrong with it.
func TestReadOfPacketsThatAreNotValid(t *testing.T) {
	if _, err := packet.Items(long27()); err != api.ErrLong {
		t.Fatalf("%d", err)
	}
	r, m := readable()
	list := r.packets()
	for _, p := range []api.Packet{{}, pk(99), pk(57), pk(57, 1, 5, 100), pk(57, 1, 5, 100, 7, 0), pk(57, 3, 5, 100, 7), pk(57, 1, 5, 100, -1), pk(-1), pk(math.MaxInt), pk(5), pk(15), long27()} {
		for i := range 3 {
			expectReadFails(t, r.l, 50, false, slices.Insert(slices.Clone(list), i, p), api.ErrPacket)
		}
		expectReadFails(t, r.l, 50, false, pks(p), api.ErrPacket)
	}
	for i := range 2 {
		for n := range len(list[i].V) + 1 {
			other := slices.Clone(list)
			other[i].V = list[i].V[:n]
			if n == len(list[i].V) {
				other[i].V = append(slices.Clone(list[i].V), 0)
			}
			expectReadFails(t, r.l, 50, false, other, api.ErrPacket)
			if n < len(list[i].V) {
				for _, x := range []int{-1, 32768, math.MinInt, math.MaxInt} {
					other[i].V = slices.Clone(list[i].V)
					other[i].V[n] = x
					expectReadFails(t, r.l, 50, false, other, api.ErrPacket)
				}
			}
		}
	}
	r.x.scale = 3
	r.expect(t, api.MA{}, api.ErrPacket)
	expectRead(t, r.l, 50, false, append(list, pk(57, 1, 5, 100, 7)), m, api.OK)
}

// Packets beside packet 15 and the first packet 5 tell nothing.
func TestReadBesideOtherPackets(t *testing.T) {
	r, m := readable()
	list := r.packets()
	others := pks(pk(57, 1, 5, 100, 7), list[0], pk(15, 0, 0, 0, 0, 0, 32767, 0, 0, 0, 0), pk(21, 0, 0, 0, 1, 1, 0))
	for _, other := range others {
		expectRead(t, r.l, 50, false, pks(list[0], other, list[1]), m, api.OK)
		expectRead(t, r.l, 50, false, pks(list[0], list[1], other), m, api.OK)
		expectRead(t, r.l, 50, false, pks(list[0], other, other, list[1], other), m, api.OK)
	}
	for _, other := range pks(list[1], pk(5, 1, 0, 0, 0, 51, 1, 2, 12, 0), pk(5, 1, 0, 0, 1, 1023, 0, 1, 2, 12, 0)) {
		expectRead(t, r.l, 50, false, pks(list[0], list[1], other), m, api.OK)
	}
	expectReadFails(t, r.l, 50, false, pks(list[0], pk(5, 1, 0, 0, 0, 51, 1, 2, 12, 0), list[1]), api.ErrValue)
	expectReadFails(t, r.l, 50, false, pks(list[0], pk(5, 1, 0, 0, 1, 0, 51, 1, 2, 12, 0), list[1]), api.ErrRange)
}

func TestReadOfDirections(t *testing.T) {
	for dir := range 3 {
		r, m := readable()
		r.x.dir = dir
		if dir == 1 {
			r.expect(t, m, api.OK)
		} else {
			r.expect(t, api.MA{}, api.ErrValue)
		}
		r, m = readableBack()
		r.x.dir = dir
		if dir == 0 {
			r.expect(t, m, api.OK)
		} else {
			r.expect(t, api.MA{}, api.ErrValue)
		}
		// Those of packet 5 tell nothing.
		r, m = readable()
		for scale := range 3 {
			r.x.linkDir, r.x.linkScale = dir, scale
			r.expect(t, m, api.OK)
		}
	}
}

func TestReadOfNumbersOfSections(t *testing.T) {
	for n := 1; n <= 32; n++ {
		r, m := readable()
		r.x.sections, m.Sects = nil, nil
		for i := range n {
			r.x.sections = append(r.x.sections, section{1, 1, 1 + i, i})
			m.Sects = append(m.Sects, sect(10*i+10, 1+i))
		}
		if n <= 8 {
			r.expect(t, m, api.OK)
		} else {
			r.expect(t, api.MA{}, api.ErrLong)
		}
	}
}

// Each number of each section, at and beyond both ends.
func TestReadOfEachSection(t *testing.T) {
	for i := range 3 {
		for _, timer := range []int{0, 1, 2, 999, 1000, 1001, 1002, 1023} {
			r, m := readable()
			r.x.sections[i].timer, m.Sects[i].Timer = timer, timer
			if timer >= 1 && timer <= 1000 {
				r.expect(t, m, api.OK)
			} else {
				r.expect(t, api.MA{}, api.ErrValue)
			}
		}
		for _, length := range []int{0, 1, 2, 30, 31, 60, 61, 32765, 32766, 32767} {
			r, m := readable()
			more := length - r.x.sections[i].length
			r.x.sections[i].length = length
			for j := i; j < 3; j++ {
				m.Sects[j].To += 10 * more
			}
			switch {
			case length == 0:
				r.expect(t, api.MA{}, api.ErrValue)
			case m.Sects[2].To > 900:
				r.expect(t, api.MA{}, api.ErrRange)
			default:
				r.expect(t, m, api.OK)
			}
		}
		r, _ := readable()
		r.x.sections[i].timed = 0
		r.expect(t, api.MA{}, api.ErrValue)
	}
}

// All scales: the sum of the lengths may be greater than what a scale can tell.
func TestReadInEachScale(t *testing.T) {
	l := scaled()
	l.Bals[0].At = 0
	for scale, unit := range []int{1, 10, 100} {
		for _, lengths := range [][]int{{1}, {32766}, {32766, 32766}, {32766, 1, 32766}, {5000, 5000}, {1, 2, 3, 4, 5, 6, 7, 8}, {32766, 32766, 32766, 32766, 32766, 32766, 32766, 32766}} {
			for _, gap := range []int{0, 1, 32766} {
				x := told{dir: 1, scale: scale, end: []int{0}, danger: []int{1, gap, 0}, overlap: []int{0}}
				for i := range 4 {
					x.links = append(x.links, entry{0, 1, 0, 51 + i, 1, 0, 0})
				}
				m := fwd(50, gap*unit, up(0, 4))
				to := 0
				for _, n := range lengths {
					to += n * unit
					x.sections = append(x.sections, section{n, 1, 9, 0})
					m.Sects = append(m.Sects, sect(to, 9))
				}
				if to+m.Gap <= 5000000 {
					expectRead(t, l, 50, false, x.packets(), m, api.OK)
				} else {
					expectReadFails(t, l, 50, false, x.packets(), api.ErrRange)
				}
			}
		}
	}
}

// Up to the end of the path, and beyond it.
func TestReadUpToTheEndOfThePath(t *testing.T) {
	for _, begin := range []func() (reading, api.MA){readable, readableBack} {
		r, m := begin()
		length := wantLength(r.l, m)
		for _, gap := range []int{0, 1, 5, length/10 - 61, length/10 - 60, length/10 - 59, 32766} {
			r.x.danger[1], m.Gap = gap, 10*gap
			if 600+m.Gap <= length {
				r.expect(t, m, api.OK)
			} else {
				r.expect(t, api.MA{}, api.ErrRange)
			}
		}
		r.x.danger[1] = 32767
		r.expect(t, api.MA{}, api.ErrRange)
		r.x.danger = []int{0}
		m.Gap = 0
		for _, more := range []int{length/10 - 61, length/10 - 60, length/10 - 59} {
			other := r
			other.x.sections = slices.Clone(r.x.sections)
			other.x.sections[2].length += more
			if 600+10*more > length {
				other.expect(t, api.MA{}, api.ErrRange)
				continue
			}
			m.Sects[2].To = 600 + 10*more
			other.expect(t, m, api.OK)
		}
	}
}

// wantLength returns how long the path of m is from its group on.
func wantLength(l api.Topo, m api.MA) int {
	g, _ := wantGroup(l, m.Ref)
	n := left(l, api.Pos{Edge: g.Edge, At: g.At, Rev: m.Rev})
	for _, s := range m.Path[1:] {
		n += l.Edges[s.Edge]
	}
	return n
}

// Entries of packet 5 on the edge of the last step are ignored, whichever group and
// direction they tell.
func TestReadOfEntriesThatAreIgnored(t *testing.T) {
	r, m := readable()
	r.l.Bals = append(r.l.Bals, api.Bal{ID: 900, Edge: 1}, api.Bal{ID: 901, Edge: 3, At: 400}, api.Bal{ID: 902, Edge: 0, At: 100})
	links := r.x.links
	ignored := [][]entry{
		{{1, 1, 0, 50, 1, 2, 12}, {2, 1, 0, 50, 0, 0, 0}, {3, 1, 0, 902, 0, 1, 1}},
		{{1, 1, 0, 51, 1, 2, 12}, {2, 1, 0, 51, 0, 0, 0}, {3, 1, 0, 900, 0, 1, 1}},
		{{1, 1, 4, 52, 1, 2, 12}, {2, 1, 4, 52, 0, 0, 0}},
		{{1, 1, 0, 53, 1, 2, 12}, {2, 1, 0, 53, 0, 0, 0}, {3, 1, 0, 901, 0, 1, 1}},
	}
	for i, list := range ignored {
		for _, e := range list {
			r.x.links = slices.Insert(slices.Clone(links), i, e)
			r.expect(t, m, api.OK)
			r.x.links = slices.Insert(slices.Clone(links), i, e, e, list[0])
			r.expect(t, m, api.OK)
			// Not on the edge of the last step.
			if i < 2 {
				r.x.links = append(slices.Clone(links), e)
				r.expect(t, api.MA{}, api.ErrEnd)
			}
		}
	}
	r.x.links = ignored[0]
	r.x.sections, r.x.danger = r.x.sections[:1], []int{0}
	r.x.sections[0].length = 5
	r.expect(t, fwd(50, 0, over(0), sect(50, 30)), api.OK)
	// An entry that would be ignored has the errors that come first.
	r.x.links = []entry{{1, 0, 0, 50, 1, 2, 12}}
	r.expect(t, api.MA{}, api.ErrValue)
}

func TestReadOfGroupsThatNoneIs(t *testing.T) {
	for i := range 3 {
		r, m := readable()
		good := r.x.links[i]
		for _, other := range []entry{{0, 1, good.country + 1, good.group, 1, 0, 0}, {0, 1, good.country, good.group + 7, 1, 0, 0}, {0, 1, 1023, 16383, 1, 0, 0}, {0, 1, 1023, 16382, 1, 0, 0}, {0, 1, 0, 0, 1, 0, 0}, {0, 1, 52, 4, 1, 0, 0}} {
			r.x.links[i] = other
			r.expect(t, api.MA{}, api.ErrNone)
			r.x.links[i].told = 0
			r.expect(t, api.MA{}, api.ErrValue)
		}
		r.x.links[i] = good
		r.expect(t, m, api.OK)
		r.x.links[i].told = 0
		r.expect(t, api.MA{}, api.ErrValue)
		r.x.links[i] = good
		r.x.links[i].orientation = 0
		r.expect(t, api.MA{}, api.ErrEnd)
		r.x.links = slices.Delete(r.x.links, i, i+1)
		if i == 2 {
			r.x.sections = r.x.sections[:2]
			m.Path, m.Sects = m.Path[:3], m.Sects[:2]
			r.expect(t, m, api.OK)
		} else {
			r.expect(t, api.MA{}, api.ErrEnd)
		}
	}
}

// Groups 0 and the greatest one, and those around a NID_C.
func TestReadOfGroups(t *testing.T) {
	for _, id := range []int{0, 1, 16383, 16384, 16385, 70000, 1<<24 - 16385, 1<<24 - 16384, 1<<24 - 2} {
		l := laid([]int{100, 200})
		l.Bals[1].ID = id
		x := told{dir: 1, sections: []section{{250, 1, 9, 0}}, end: []int{0}, danger: []int{0}, overlap: []int{0}}
		x.links = []entry{{0, 1, id / 16384, id % 16384, 1, 0, 0}}
		expectRead(t, l, 50, false, x.packets(), fwd(50, 0, over(0, 1), sect(250, 9)), api.OK)
	}
}

// A path around the ring, and one of up to 24 steps.
func TestReadOfPathsThatAreTooLong(t *testing.T) {
	r, m := readable()
	r.x.links = append(r.x.links, entry{0, 1, 0, 54, 1, 0, 0})
	m.Path = append(m.Path, on(4))
	r.expect(t, m, api.OK)
	r.x.links = append(r.x.links, entry{0, 1, 0, 50, 1, 0, 0})
	r.expect(t, api.MA{}, api.ErrLong)
	r.x.links[4].orientation = 0
	r.expect(t, api.MA{}, api.ErrEnd)
	r.x.links[4] = entry{0, 1, 0, 51, 1, 0, 0}
	r.expect(t, api.MA{}, api.ErrEnd)
	l := long(40)
	for n := 1; n <= 32; n++ {
		x := told{dir: 1, sections: []section{{2, 1, 9, 0}}, end: []int{0}, danger: []int{0}, overlap: []int{0}}
		for i := range n {
			x.links = append(x.links, entry{0, 1, 0, 51 + i, 1, 0, 0})
		}
		want := fwd(50, 0, up(0, n), sect(2, 9))
		if n <= 23 {
			expectRead(t, l, 50, false, x.packets(), want, api.OK)
			x.links = append(x.links, x.links[n-1])
			expectRead(t, l, 50, false, x.packets(), want, api.OK)
			x.links[n].group = 89
			expectReadFails(t, l, 50, false, x.packets(), api.ErrEnd)
			x.links[n].group = 99
			expectReadFails(t, l, 50, false, x.packets(), api.ErrNone)
		} else {
			expectReadFails(t, l, 50, false, x.packets(), api.ErrLong)
		}
	}
	// Edge 1 leads back to edge 0.
	l = laid([]int{100, 200})
	l.Joints = append(l.Joints, joined(1, 1, 0, 1))
	x := told{dir: 1, sections: []section{{2, 1, 9, 0}}, end: []int{0}, danger: []int{0}, overlap: []int{0}}
	x.links = []entry{{0, 1, 0, 51, 1, 0, 0}, {0, 1, 0, 50, 0, 0, 0}}
	expectReadFails(t, l, 50, false, x.packets(), api.ErrLong)
	x.links[1].orientation = 1
	expectReadFails(t, l, 50, false, x.packets(), api.ErrEnd)
	x.links = x.links[:1]
	expectRead(t, l, 50, false, x.packets(), fwd(50, 0, over(0, 1), sect(2, 9)), api.OK)
}

// Either end of the next edge, where both may follow.
func TestReadOfOrientations(t *testing.T) {
	l := laid([]int{100, 200})
	l.Joints = append(l.Joints, joined(0, 1, 1, 1))
	for orientation := range 2 {
		x := told{dir: 1, sections: []section{{2, 1, 9, 0}}, end: []int{0}, danger: []int{0}, overlap: []int{0}}
		x.links = []entry{{0, 1, 0, 51, orientation, 0, 0}}
		m := fwd(50, 0, []api.Step{on(0), {Edge: 1, Rev: orientation == 0}}, sect(2, 9))
		expectRead(t, l, 50, false, x.packets(), m, api.OK)
	}
}

// fault is something that is wrong with what Read is handed.
type fault struct {
	err   api.Errno
	spoil func(r *reading)
}

// faults returns what may be wrong, in the order in which Read looks for it.
func faults() []fault {
	list := []fault{
		{api.ErrArg, func(r *reading) { r.l.Edges = append(r.l.Edges, 0) }},
		{api.ErrNone, func(r *reading) { r.ref = 7 }},
		{api.ErrPacket, func(r *reading) {
			r.more = func(list []api.Packet) []api.Packet { return append(list, pk(99)) }
		}},
		{api.ErrValue, func(r *reading) { r.x.dir = 2 }},
		{api.ErrLong, func(r *reading) { r.x.sections = append(r.x.sections, slices.Repeat(r.x.sections[2:], 6)...) }},
	}
	for i := range 3 {
		list = append(list,
			fault{api.ErrValue, func(r *reading) { r.x.sections[i].timed = 0 }},
			fault{api.ErrValue, func(r *reading) { r.x.sections[i].timer = 1001 }},
			fault{api.ErrValue, func(r *reading) { r.x.sections[i].length = 0 }},
			fault{api.ErrRange, func(r *reading) { r.x.sections[i].length = 32767 }})
	}
	list = append(list, fault{api.ErrRange, func(r *reading) { r.x.danger[1] = 32767 }})
	for i := range 3 {
		list = append(list,
			fault{api.ErrValue, func(r *reading) { r.x.links[i].told = 0 }},
			fault{api.ErrNone, func(r *reading) { r.x.links[i].group = 999 }},
			fault{api.ErrEnd, func(r *reading) { r.x.links[i].orientation = 0 }})
	}
	return append(list,
		fault{api.ErrLong, func(r *reading) {
			r.x.links = append(r.x.links, entry{0, 1, 0, 54, 1, 0, 0}, entry{0, 1, 0, 50, 1, 0, 0})
		}},
		fault{api.ErrRange, func(r *reading) { r.x.danger[1] = 1000 }})
}

// Which error comes where two or three apply.
func TestReadErrorsInOrder(t *testing.T) {
	list := faults()
	read := func(which ...int) {
		t.Helper()
		r, _ := readable()
		for _, i := range slices.Backward(which) {
			list[i].spoil(&r)
		}
		r.expect(t, api.MA{}, list[which[0]].err)
	}
	for i := range list {
		read(i)
		for j := i + 1; j < len(list); j++ {
			read(i, j)
			for k := j + 1; k < len(list); k += 3 {
				read(i, j, k)
			}
		}
	}
}

// The same for the first packets and refs that Read refuses in other ways.
func TestReadErrorsOfTheFirstStepInOrder(t *testing.T) {
	r, _ := readable()
	bad := r.l
	bad.Edges = append(slices.Clone(r.l.Edges), 0)
	for _, list := range [][]api.Packet{nil, pks(pk(99)), pks(pk(5)), pks(pk(15)), pks(pk(15, 0, 0, 0, 0, 0, 0, 0, 0, 0, 0))} {
		expectReadFails(t, bad, 7, false, list, api.ErrArg)
		expectReadFails(t, r.l, 7, false, list, api.ErrNone)
	}
	expectReadFails(t, r.l, 50, false, pks(pk(15, 0, 0, 0, 0, 0, 0, 0, 0, 0, 0), pk(99)), api.ErrPacket)
	expectReadFails(t, r.l, 50, false, pks(pk(15, 0, 0, 0, 0, 0, 0, 0, 0, 0, 0)), api.ErrValue)
}
