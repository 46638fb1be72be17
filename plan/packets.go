package plan

import (
	"slices"

	"lineside/api"
	"lineside/place"
	"lineside/scale"
)

// The numbers of the packets of an authority: its sections, and the balise groups
// along its path.
const (
	sectionsPacket = 15
	linksPacket    = 5
)

// The values of variables that say whether others are present, and of Q_NEWCOUNTRY,
// which says so of NID_C.
const (
	absent  = 0
	present = 1
)

// The values of Q_DIR and Q_LINKORIENTATION.
const (
	reverse = 0
	nominal = 1
)

// What an authority tells of every balise group: Q_LINKREACTION and Q_LOCACC.
const (
	noReaction = 2
	accuracy   = 12
)

// groupsOfCountry is how many balise groups share a NID_C.
const groupsOfCountry = 1 << 14

// Packets encodes m as packet 15 and, if it has a path to tell, packet 5.
func Packets(t api.Topo, m api.MA) ([]api.Packet, api.Errno) {
	if !May(t, m) {
		return nil, api.ErrArg
	}
	best := scale.Best(end(m) + m.Gap)
	if best < 0 {
		return nil, api.ErrRange
	}
	sections, err := tellSections(m, best)
	if err != api.OK {
		return nil, err
	}
	list := []api.Packet{{ID: sectionsPacket, V: append([]int{direction(m.Rev), best}, sections...)}}
	if len(m.Path) == 1 {
		return list, api.OK
	}
	links, err := tellLinks(t, m, best)
	if err != api.OK {
		return nil, err
	}
	return append(list, api.Packet{ID: linksPacket, V: append([]int{direction(m.Rev), best}, links...)}), api.OK
}

// tellSections returns the numbers of packet 15 behind Q_DIR and Q_SCALE. All
// distances of m can be told in the scale, as its end with the Gap can.
func tellSections(m api.MA, best int) ([]int, api.Errno) {
	v := []int{0, 0, len(m.Sects) - 1} // V_EMA, T_EMA, N_ITER
	told := 0
	for _, s := range m.Sects {
		to, _ := scale.Scaled(s.To, best, false)
		if to <= told {
			return nil, api.ErrRange
		}
		v = append(v, to-told, present, s.Timer, 0) // the last one is D_SECTIONTIMERSTOPLOC
		told = to
	}
	v = append(v, absent) // Q_ENDTIMER
	v = append(v, tellGap(m.Gap, best)...)
	return append(v, absent), api.OK // Q_OVERLAP
}

// tellGap returns Q_DANGERPOINT and, if there is a Gap to tell, D_DP and V_RELEASEDP.
func tellGap(gap, best int) []int {
	n, _ := scale.Scaled(gap, best, false)
	if n == 0 {
		return []int{absent}
	}
	return []int{present, n, 0}
}

// tellLinks returns the numbers of packet 5 behind Q_DIR and Q_SCALE: an entry for
// each step but the first, and N_ITER behind the first one of these entries.
func tellLinks(t api.Topo, m api.MA, best int) ([]int, api.Errno) {
	group, _ := place.Locate(t, m.Ref, m.Rev, 0)
	last := entered(t, group)
	var v []int
	for i, s := range m.Path[1:] {
		at := slices.IndexFunc(t.Bals, func(b api.Bal) bool { return b.Edge == s.Edge })
		if at < 0 {
			return nil, api.ErrArg
		}
		b := t.Bals[at]
		here, _ := place.On(t, m.Path, api.Pos{Edge: b.Edge, At: b.At, Rev: s.Rev})
		n, err := scale.Scaled(here-last, best, false)
		if err != api.OK {
			return nil, err
		}
		v = append(v, n, present, b.ID/groupsOfCountry, b.ID%groupsOfCountry, direction(s.Rev), noReaction, accuracy)
		if i == 0 {
			v = append(v, len(m.Path)-2)
		}
		last = here
	}
	return v, api.OK
}

// direction returns how Q_DIR and Q_LINKORIENTATION tell a direction.
func direction(rev bool) int {
	if rev {
		return reverse
	}
	return nominal
}
