package plan

import (
	"slices"

	"lineside/api"
	"lineside/packet"
	"lineside/place"
	"lineside/scale"
	"lineside/topo"
)

// numbers are the variables of a valid packet that were not read yet.
type numbers struct{ rest []int }

// next reads a variable.
func (n *numbers) next() int {
	first := n.rest[0]
	n.rest = n.rest[1:]
	return first
}

// skip reads variables that tell nothing of an authority.
func (n *numbers) skip(count int) { n.rest = n.rest[count:] }

// link is an entry of packet 5: a balise group, if its country is told too, and the
// direction in which it is passed.
type link struct {
	told  bool
	group int
	rev   bool
}

// Read decodes the authority that the packets l describe.
func Read(t api.Topo, ref int, rev bool, l []api.Packet) (api.MA, api.Errno) {
	group, err := place.Locate(t, ref, rev, 0)
	if err != api.OK {
		return api.MA{}, err
	}
	if !areReadable(l) {
		return api.MA{}, api.ErrPacket
	}
	m := api.MA{Ref: ref, Rev: rev}
	m.Sects, m.Gap, err = readSections(l[0], rev)
	if err != api.OK {
		return api.MA{}, err
	}
	m.Path, err = follow(t, stepOf(group), readLinks(l))
	if err != api.OK {
		return api.MA{}, err
	}
	if !May(t, m) {
		return api.MA{}, api.ErrRange
	}
	return m, api.OK
}

// areReadable reports whether the first packet of l is packet 15, and all are valid.
func areReadable(l []api.Packet) bool {
	if len(l) == 0 || l[0].ID != sectionsPacket {
		return false
	}
	return !slices.ContainsFunc(l, func(p api.Packet) bool {
		_, err := packet.Items(p)
		return err != api.OK
	})
}

// readSections returns the Sects and the Gap that packet 15 tells.
func readSections(p api.Packet, rev bool) ([]api.Sect, int, api.Errno) {
	v := numbers{rest: p.V}
	if v.next() != direction(rev) {
		return nil, 0, api.ErrValue
	}
	unit := scale.Unit(v.next())
	v.skip(2) // V_EMA, T_EMA
	iterations := v.next()
	if iterations >= api.MaxSects {
		return nil, 0, api.ErrLong
	}
	to := 0
	var list []api.Sect
	for range iterations + 1 {
		length, timer, err := readSection(v.next)
		if err != api.OK {
			return nil, 0, err
		}
		to += length * unit
		list = append(list, api.Sect{To: to, Timer: timer})
	}
	gap, err := readGap(&v)
	return list, gap * unit, err
}

// readSection returns the length and the timer of a section; next reads the next
// variable of its packet.
func readSection(next func() int) (int, int, api.Errno) {
	length := next()
	if next() == absent {
		return 0, 0, api.ErrValue
	}
	timer := next()
	next() // D_SECTIONTIMERSTOPLOC
	switch {
	case !isTimer(timer) || length == 0:
		return 0, 0, api.ErrValue
	case length > api.MaxScaled:
		return 0, 0, api.ErrRange
	}
	return length, timer, api.OK
}

// readGap returns the scaled Gap, which stands behind the sections and their end
// timer.
func readGap(v *numbers) (int, api.Errno) {
	if v.next() == present {
		v.skip(2) // T_ENDTIMER, D_ENDTIMERSTARTLOC
	}
	if v.next() == absent {
		return 0, api.OK
	}
	gap := v.next()
	if gap > api.MaxScaled {
		return 0, api.ErrRange
	}
	return gap, api.OK
}

// readLinks returns the entries of the first packet 5 of l.
func readLinks(l []api.Packet) []link {
	i := slices.IndexFunc(l, func(p api.Packet) bool { return p.ID == linksPacket })
	if i < 0 {
		return nil
	}
	v := numbers{rest: l[i].V}
	v.skip(2) // Q_DIR, Q_SCALE
	list := []link{readLink(&v)}
	for range v.next() {
		list = append(list, readLink(&v))
	}
	return list
}

func readLink(v *numbers) link {
	var k link
	v.skip(1) // D_LINK
	k.told = v.next() == present
	if k.told {
		k.group = v.next() * groupsOfCountry
	}
	k.group += v.next()
	k.rev = v.next() == reverse
	v.skip(2) // Q_LINKREACTION, Q_LOCACC
	return k
}

// follow returns the path from the step first on over the edges of the balise groups
// of list.
func follow(t api.Topo, first api.Step, list []link) ([]api.Step, api.Errno) {
	path := []api.Step{first}
	for _, k := range list {
		b, ok := topo.Bal(t, k.group)
		last := path[len(path)-1]
		next := api.Step{Edge: b.Edge, Rev: k.rev}
		switch {
		case !k.told:
			return nil, api.ErrValue
		case !ok:
			return nil, api.ErrNone
		case b.Edge == last.Edge:
			continue
		case !slices.Contains(topo.After(t, last), next):
			return nil, api.ErrEnd
		case len(path) == api.MaxWay || goesOver(path, b.Edge):
			return nil, api.ErrLong
		}
		path = append(path, next)
	}
	return path, api.OK
}
