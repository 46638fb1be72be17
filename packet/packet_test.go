package packet

import (
	"bytes"
	"math"
	"slices"
	"strconv"
	"strings"
	"testing"

	"lineside/api"
	"lineside/vars"
)

// row is a row of the chapter's table.
type row struct {
	id   int
	text string
}

var table = []row{
	{0, "L_PACKET Q_SCALE NID_LRBG D_LRBG Q_DIRLRBG Q_DLRBG L_DOUBTOVER L_DOUBTUNDER Q_LENGTH [1, 2: L_TRAININT] V_TRAIN Q_DIRTRAIN M_MODE M_LEVEL [1: NID_NTC]"},
	{1, "L_PACKET Q_SCALE NID_LRBG NID_PRVLRBG D_LRBG Q_DIRLRBG Q_DLRBG L_DOUBTOVER L_DOUBTUNDER Q_LENGTH [1, 2: L_TRAININT] V_TRAIN Q_DIRTRAIN M_MODE M_LEVEL [1: NID_NTC]"},
	{3, "Q_DIR L_PACKET Q_SCALE D_VALIDNV N_ITER { NID_C } V_NVSHUNT M_NVCONTACT T_NVCONTACT"},
	{5, "Q_DIR L_PACKET Q_SCALE D_LINK Q_NEWCOUNTRY [1: NID_C] NID_BG Q_LINKORIENTATION Q_LINKREACTION Q_LOCACC N_ITER { D_LINK Q_NEWCOUNTRY [1: NID_C] NID_BG Q_LINKORIENTATION Q_LINKREACTION Q_LOCACC }"},
	{11, "L_PACKET NID_OPERATIONAL NC_TRAIN L_TRAIN V_MAXTRAIN M_LOADINGGAUGE M_AXLELOAD M_AIRTIGHT N_ITER { M_TRACTION } N_ITER { NID_STM }"},
	{15, "Q_DIR L_PACKET Q_SCALE V_EMA T_EMA N_ITER { L_SECTION Q_SECTIONTIMER [1: T_SECTIONTIMER D_SECTIONTIMERSTOPLOC] } L_ENDSECTION Q_SECTIONTIMER [1: T_SECTIONTIMER D_SECTIONTIMERSTOPLOC] Q_ENDTIMER [1: T_ENDTIMER D_ENDTIMERSTARTLOC] Q_DANGERPOINT [1: D_DP V_RELEASEDP] Q_OVERLAP [1: D_STARTOL T_OL D_OL V_RELEASEOL]"},
	{21, "Q_DIR L_PACKET Q_SCALE D_GRADIENT Q_GDIR G_A N_ITER { D_GRADIENT Q_GDIR G_A }"},
	{27, "Q_DIR L_PACKET Q_SCALE D_STATIC V_STATIC Q_FRONT N_ITER { NC_DIFF V_DIFF } N_ITER { D_STATIC V_STATIC Q_FRONT N_ITER { NC_DIFF V_DIFF } }"},
	{42, "Q_DIR L_PACKET Q_RBC NID_C NID_RBC NID_RADIO NID_RADIO Q_SLEEPSESSION"},
	{57, "Q_DIR L_PACKET T_MAR T_TIMEOUTRQST T_CYCRQST"},
	{58, "Q_DIR L_PACKET Q_SCALE T_CYCLOC D_CYCLOC M_LOC N_ITER { D_LOC Q_LGTLOC }"},
	{80, "Q_DIR L_PACKET Q_SCALE D_MAMODE M_MAMODE V_MAMODE L_MAMODE L_ACKMAMODE Q_MAMODE N_ITER { D_MAMODE M_MAMODE V_MAMODE L_MAMODE L_ACKMAMODE Q_MAMODE }"},
}

// textOf returns the variables of a packet as the chapter writes them, or false
// if its table has no such packet.
func textOf(id int) (string, bool) {
	for _, r := range table {
		if r.id == id {
			return r.text, true
		}
	}
	return "", false
}

// wordsOf returns the words of a row. A word that opens a condition contains
// nothing else than the values that fulfil it.
func wordsOf(text string) []string {
	text = strings.NewReplacer("[1, 2:", "[12", "[1:", "[1", "]", " ]").Replace(text)
	return strings.Fields(text)
}

// spell goes over the words of a row; take returns the value of each variable.
func spell(words []string, take func(variable int) int) {
	last := 0
	for i := 0; i < len(words); i++ {
		word := words[i]
		times := 0
		switch {
		case word == "{":
			times = last
		case !strings.HasPrefix(word, "["):
			last = take(vars.Find(word))
			continue
		case last < 10 && strings.Contains(word, strconv.Itoa(last)):
			times = 1
		}
		end := closing(words, i)
		for range times {
			spell(words[i+1:end], take)
		}
		i = end
	}
}

// closing returns the place of the bracket that closes the one at open.
func closing(words []string, open int) int {
	depth := 0
	for i := open; ; i++ {
		switch first := words[i][0]; first {
		case '{', '[':
			depth++
		case '}', ']':
			depth--
		}
		if depth == 0 {
			return i
		}
	}
}

// field is a variable of a packet and its value.
type field struct{ variable, n int }

func (f field) digits() string {
	s := strconv.FormatInt(int64(f.n), 2)
	return strings.Repeat("0", vars.Width(f.variable)-len(s)) + s
}

// fieldsOf returns the variables of a packet by the chapter's table; choose
// returns the value of each one but NID_PACKET and L_PACKET.
func fieldsOf(t *testing.T, id int, choose func(variable int) int) []field {
	t.Helper()
	text, ok := textOf(id)
	if !ok {
		t.Fatalf("no packet %d", id)
	}
	out := []field{{api.VNidPacket, id}}
	spell(wordsOf(text), func(variable int) int {
		n := 0
		if variable != api.VLPacket {
			n = choose(variable)
		}
		out = append(out, field{variable, n})
		return n
	})
	withLength(out, sizeOf(out))
	return out
}

func sizeOf(fields []field) int {
	size := 0
	for _, f := range fields {
		size += vars.Width(f.variable)
	}
	return size
}

// withLength sets the value of L_PACKET.
func withLength(fields []field, size int) {
	for i, f := range fields {
		if f.variable == api.VLPacket {
			fields[i].n = size
		}
	}
}

// fieldsOfPacket returns the variables of a packet whose V is valid.
func fieldsOfPacket(t *testing.T, p api.Packet) []field {
	t.Helper()
	rest := p.V
	out := fieldsOf(t, p.ID, func(int) int {
		n := rest[0]
		rest = rest[1:]
		return n
	})
	if len(rest) > 0 {
		t.Fatalf("%v has %d numbers too many", p, len(rest))
	}
	return out
}

// packetOf returns the packet that consists of the fields.
func packetOf(fields []field) api.Packet {
	p := api.Packet{ID: fields[0].n}
	for _, f := range fields[1:] {
		if f.variable != api.VLPacket {
			p.V = append(p.V, f.n)
		}
	}
	return p
}

func digitsOf(fields []field) string {
	out := ""
	for _, f := range fields {
		out += f.digits()
	}
	return out
}

// digitsOfItems returns the items as binary digits.
func digitsOfItems(t *testing.T, items []api.Bits) string {
	t.Helper()
	var out strings.Builder
	for _, item := range items {
		s := strconv.FormatInt(int64(item.N), 2)
		if item.N < 0 || len(s) > item.Width {
			t.Fatalf("%d does not fit into %d bits", item.N, item.Width)
		}
		out.WriteString(strings.Repeat("0", item.Width-len(s)) + s)
	}
	return out.String()
}

// packed returns the bytes of binary digits, the last one filled up with zeros.
// Blanks do not count.
func packed(t *testing.T, s string) []byte {
	t.Helper()
	s = strings.ReplaceAll(s, " ", "")
	s += strings.Repeat("0", (8-len(s)%8)%8)
	var out []byte
	for ; s != ""; s = s[8:] {
		n, err := strconv.ParseUint(s[:8], 2, 8)
		if err != nil {
			t.Fatal(err)
		}
		out = append(out, byte(n))
	}
	return out
}

// dice yields numbers that look random.
type dice uint64

func (d *dice) below(n int) int {
	*d = *d*6364136223846793005 + 1442695040888963407
	return int(*d>>33) % n
}

// valid returns a valid value of the variable, often one at a bound.
func (d *dice) valid(variable int) int {
	most, special := vars.Most(variable), vars.Special(variable)
	switch choice := d.below(6); {
	case choice == 0:
		return 0
	case choice == 1:
		return most
	case choice == 2:
		return min(1, most)
	case choice == 3 && special > 0:
		return special + d.below(1<<vars.Width(variable)-special)
	}
	return d.below(most + 1)
}

// short is like valid, but it yields few repetitions.
func (d *dice) short(variable int) int {
	if variable == api.VNIter {
		return d.below(4)
	}
	return d.valid(variable)
}

// samples returns packets of every number, of many shapes, that all fit into
// MaxBits.
func samples(t *testing.T) []api.Packet {
	t.Helper()
	var out []api.Packet
	for _, r := range table {
		d := dice(r.id)
		for range 40 {
			out = append(out, packetOf(fieldsOf(t, r.id, d.short)))
		}
	}
	return out
}

func expectItems(t *testing.T, p api.Packet, want []api.Bits) {
	t.Helper()
	size := 0
	for _, item := range want {
		size += item.Width
	}
	if have, err := Items(p); err != api.OK || !slices.Equal(have, want) {
		t.Errorf("Items(%v): %v %d, want %v", p, have, err, want)
	}
	if have := Size(p); have != size {
		t.Errorf("Size(%v): %d, want %d", p, have, size)
	}
}

func expectItemsError(t *testing.T, p api.Packet, want api.Errno) {
	t.Helper()
	if have, err := Items(p); err != want || len(have) != 0 {
		t.Errorf("Items of %d, %v: %v %d, want %d", p.ID, p.V, have, err, want)
	}
	if have := Size(p); have != 0 {
		t.Errorf("Size of %d, %v: %d, want 0", p.ID, p.V, have)
	}
}

func same(p, q api.Packet) bool { return p.ID == q.ID && slices.Equal(p.V, q.V) }

func expectGet(t *testing.T, b []byte, at int, want api.Packet, wantNext int) {
	t.Helper()
	if p, next, err := Get(b, at); err != api.OK || !same(p, want) || next != wantNext {
		t.Errorf("Get(%x, %d): %v %d %d, want %v %d", b, at, p, next, err, want, wantNext)
	}
}

func expectGetError(t *testing.T, b []byte, at int, want api.Errno) {
	t.Helper()
	if p, next, err := Get(b, at); err != want || p.ID != 0 || len(p.V) != 0 || next != 0 {
		t.Errorf("Get(%x, %d): %v %d %d, want %d", b, at, p, next, err, want)
	}
}

// The limits and errors of the chapter are those of api.

func TestLimits(t *testing.T) {
	if api.MaxBits != 8184 || api.ErrArg != 1 || api.ErrLong != 2 || api.ErrShort != 10 || api.ErrValue != 20 || api.ErrPacket != 50 {
		t.Error("a constant of api differs")
	}
}

// P5.1

// strange are numbers beyond every table, some of which become the number of a
// packet when their high bits are lost.
var strange = []int{math.MinInt, math.MinInt + 57, -1 << 32, -256 + 57, -57, -1, 256, 256 + 57, 1<<16 + 15, 1<<32 + 57, 1 << 40, math.MaxInt}

func TestKnown(t *testing.T) {
	for id := -600; id <= 600; id++ {
		if _, want := textOf(id); Known(id) != want {
			t.Errorf("Known(%d): %t", id, !want)
		}
	}
	for _, id := range strange {
		if Known(id) {
			t.Errorf("Known(%d)", id)
		}
	}
}

func TestUp(t *testing.T) {
	for id := -600; id <= 600; id++ {
		if want := id == 0 || id == 1 || id == 11; Up(id) != want {
			t.Errorf("Up(%d): %t", id, !want)
		}
	}
	for _, id := range append(strange, 1<<32, 1<<32+1, 1<<32+11) {
		if Up(id) {
			t.Errorf("Up(%d)", id)
		}
	}
}

// P5.2

// plainCases are a packet of every number, with the values of its variables and
// their widths as the chapters give them.
func plainCases() []struct {
	p    api.Packet
	want []api.Bits
} {
	return []struct {
		p    api.Packet
		want []api.Bits
	}{
		{api.Packet{ID: 0, V: []int{1, 77, 30, 1, 2, 3, 4, 1, 400, 20, 2, 14, 1, 8}},
			[]api.Bits{{N: 0, Width: 8}, {N: 137, Width: 13}, {N: 1, Width: 2}, {N: 77, Width: 24}, {N: 30, Width: 15}, {N: 1, Width: 2}, {N: 2, Width: 2}, {N: 3, Width: 15}, {N: 4, Width: 15}, {N: 1, Width: 2}, {N: 400, Width: 15}, {N: 20, Width: 7}, {N: 2, Width: 2}, {N: 14, Width: 4}, {N: 1, Width: 3}, {N: 8, Width: 8}}},
		{api.Packet{ID: 1, V: []int{2, 77, 78, 30, 0, 1, 3, 4, 3, 127, 1, 5, 4}},
			[]api.Bits{{N: 1, Width: 8}, {N: 138, Width: 13}, {N: 2, Width: 2}, {N: 77, Width: 24}, {N: 78, Width: 24}, {N: 30, Width: 15}, {N: 0, Width: 2}, {N: 1, Width: 2}, {N: 3, Width: 15}, {N: 4, Width: 15}, {N: 3, Width: 2}, {N: 127, Width: 7}, {N: 1, Width: 2}, {N: 5, Width: 4}, {N: 4, Width: 3}}},
		{api.Packet{ID: 3, V: []int{1, 0, 500, 2, 9, 1023, 30, 2, 255}},
			[]api.Bits{{N: 3, Width: 8}, {N: 1, Width: 2}, {N: 82, Width: 13}, {N: 0, Width: 2}, {N: 500, Width: 15}, {N: 2, Width: 5}, {N: 9, Width: 10}, {N: 1023, Width: 10}, {N: 30, Width: 7}, {N: 2, Width: 2}, {N: 255, Width: 8}}},
		{api.Packet{ID: 5, V: []int{1, 0, 100, 1, 9, 33, 1, 2, 12, 1, 200, 0, 34, 0, 1, 63}},
			[]api.Bits{{N: 5, Width: 8}, {N: 1, Width: 2}, {N: 118, Width: 13}, {N: 0, Width: 2}, {N: 100, Width: 15}, {N: 1, Width: 1}, {N: 9, Width: 10}, {N: 33, Width: 14}, {N: 1, Width: 1}, {N: 2, Width: 2}, {N: 12, Width: 6}, {N: 1, Width: 5}, {N: 200, Width: 15}, {N: 0, Width: 1}, {N: 34, Width: 14}, {N: 0, Width: 1}, {N: 1, Width: 2}, {N: 63, Width: 6}}},
		{api.Packet{ID: 11, V: []int{99, 1, 400, 60, 5, 127, 1, 1, 7, 2, 8, 9}},
			[]api.Bits{{N: 11, Width: 8}, {N: 138, Width: 13}, {N: 99, Width: 32}, {N: 1, Width: 15}, {N: 400, Width: 12}, {N: 60, Width: 7}, {N: 5, Width: 8}, {N: 127, Width: 7}, {N: 1, Width: 2}, {N: 1, Width: 5}, {N: 7, Width: 8}, {N: 2, Width: 5}, {N: 8, Width: 8}, {N: 9, Width: 8}}},
		{api.Packet{ID: 15, V: []int{1, 0, 20, 30, 1, 500, 1, 60, 9, 700, 0, 1, 30, 5, 1, 10, 126, 1, 3, 4, 5, 127}},
			[]api.Bits{{N: 15, Width: 8}, {N: 1, Width: 2}, {N: 201, Width: 13}, {N: 0, Width: 2}, {N: 20, Width: 7}, {N: 30, Width: 10}, {N: 1, Width: 5}, {N: 500, Width: 15}, {N: 1, Width: 1}, {N: 60, Width: 10}, {N: 9, Width: 15}, {N: 700, Width: 15}, {N: 0, Width: 1}, {N: 1, Width: 1}, {N: 30, Width: 10}, {N: 5, Width: 15}, {N: 1, Width: 1}, {N: 10, Width: 15}, {N: 126, Width: 7}, {N: 1, Width: 1}, {N: 3, Width: 15}, {N: 4, Width: 10}, {N: 5, Width: 15}, {N: 127, Width: 7}}},
		{api.Packet{ID: 21, V: []int{0, 2, 40, 1, 255, 1, 41, 0, 3}},
			[]api.Bits{{N: 21, Width: 8}, {N: 0, Width: 2}, {N: 78, Width: 13}, {N: 2, Width: 2}, {N: 40, Width: 15}, {N: 1, Width: 1}, {N: 255, Width: 8}, {N: 1, Width: 5}, {N: 41, Width: 15}, {N: 0, Width: 1}, {N: 3, Width: 8}}},
		{api.Packet{ID: 27, V: []int{1, 1, 0, 127, 1, 1, 2, 8, 1, 500, 20, 0, 2, 1, 5, 2, 6}},
			[]api.Bits{{N: 27, Width: 8}, {N: 1, Width: 2}, {N: 119, Width: 13}, {N: 1, Width: 2}, {N: 0, Width: 15}, {N: 127, Width: 7}, {N: 1, Width: 1}, {N: 1, Width: 5}, {N: 2, Width: 4}, {N: 8, Width: 7}, {N: 1, Width: 5}, {N: 500, Width: 15}, {N: 20, Width: 7}, {N: 0, Width: 1}, {N: 2, Width: 5}, {N: 1, Width: 4}, {N: 5, Width: 7}, {N: 2, Width: 4}, {N: 6, Width: 7}}},
		{api.Packet{ID: 42, V: []int{2, 1, 1023, 16383, 1, 1<<32 - 1, 0}},
			[]api.Bits{{N: 42, Width: 8}, {N: 2, Width: 2}, {N: 113, Width: 13}, {N: 1, Width: 1}, {N: 1023, Width: 10}, {N: 16383, Width: 14}, {N: 1, Width: 32}, {N: 1<<32 - 1, Width: 32}, {N: 0, Width: 1}}},
		{api.Packet{ID: 57, V: []int{1, 5, 100, 7}},
			[]api.Bits{{N: 57, Width: 8}, {N: 1, Width: 2}, {N: 49, Width: 13}, {N: 5, Width: 8}, {N: 100, Width: 10}, {N: 7, Width: 8}}},
		{api.Packet{ID: 58, V: []int{1, 1, 255, 32767, 2, 2, 5, 1, 6, 0}},
			[]api.Bits{{N: 58, Width: 8}, {N: 1, Width: 2}, {N: 88, Width: 13}, {N: 1, Width: 2}, {N: 255, Width: 8}, {N: 32767, Width: 15}, {N: 2, Width: 3}, {N: 2, Width: 5}, {N: 5, Width: 15}, {N: 1, Width: 1}, {N: 6, Width: 15}, {N: 0, Width: 1}}},
		{api.Packet{ID: 80, V: []int{1, 1, 10, 2, 127, 11, 12, 1, 1, 20, 1, 30, 21, 22, 0}},
			[]api.Bits{{N: 80, Width: 8}, {N: 1, Width: 2}, {N: 140, Width: 13}, {N: 1, Width: 2}, {N: 10, Width: 15}, {N: 2, Width: 2}, {N: 127, Width: 7}, {N: 11, Width: 15}, {N: 12, Width: 15}, {N: 1, Width: 1}, {N: 1, Width: 5}, {N: 20, Width: 15}, {N: 1, Width: 2}, {N: 30, Width: 7}, {N: 21, Width: 15}, {N: 22, Width: 15}, {N: 0, Width: 1}}},
	}
}

func TestItems(t *testing.T) {
	cases := plainCases()
	if len(cases) != len(table) {
		t.Fatalf("%d packets", len(cases))
	}
	for _, c := range cases {
		expectItems(t, c.p, c.want)
	}
}

// itemsOf returns the fields as items.
func itemsOf(fields []field) []api.Bits {
	var out []api.Bits
	for _, f := range fields {
		out = append(out, api.Bits{N: f.n, Width: vars.Width(f.variable)})
	}
	return out
}

func TestItemsOfManyShapes(t *testing.T) {
	for _, p := range samples(t) {
		expectItems(t, p, itemsOf(fieldsOfPacket(t, p)))
	}
}

// A condition looks at the variable directly before it, so packets with each
// value of the conditions and with each count of repetitions are all different.
func TestItemsOfEveryConditionAndCount(t *testing.T) {
	for _, r := range table {
		for _, asked := range []int{api.VQLength, api.VMLevel, api.VQNewcountry, api.VQSectiontimer, api.VQEndtimer, api.VQDangerpoint, api.VQOverlap, api.VNIter} {
			for n := 0; n <= vars.Most(asked); n++ {
				d := dice(n)
				p := packetOf(fieldsOf(t, r.id, func(variable int) int {
					if variable == asked {
						return n
					}
					return d.short(variable)
				}))
				fields := fieldsOfPacket(t, p)
				size := sizeOf(fields)
				if size > api.MaxBits { // many repetitions, each with as many ones
					expectItemsError(t, p, api.ErrLong)
					continue
				}
				expectItems(t, p, itemsOf(fields))
				expectGet(t, packed(t, digitsOf(fields)), 0, p, size)
			}
		}
	}
}

// invalid returns numbers that are no values of the variable, among them those
// next to its valid ones.
func invalid(variable int) []int {
	width := vars.Width(variable)
	out := []int{math.MinInt, -1 << 32, -1, 1 << width, 1<<width + 1, 1 << 33, math.MaxInt}
	for _, n := range []int{vars.Most(variable) + 1, vars.Special(variable) - 1, 1<<width - 1} {
		if !vars.May(variable, n) {
			out = append(out, n)
		}
	}
	return out
}

// variablesOfV returns the variables of the numbers of p.V.
func variablesOfV(t *testing.T, p api.Packet) []int {
	t.Helper()
	var out []int
	for _, f := range fieldsOfPacket(t, p)[1:] {
		if f.variable != api.VLPacket {
			out = append(out, f.variable)
		}
	}
	return out
}

func TestItemsOfInvalidValues(t *testing.T) {
	for _, c := range plainCases() {
		for i, variable := range variablesOfV(t, c.p) {
			for _, n := range invalid(variable) {
				v := slices.Clone(c.p.V)
				v[i] = n
				expectItemsError(t, api.Packet{ID: c.p.ID, V: v}, api.ErrValue)
			}
		}
	}
}

func TestItemsOfTooFewAndTooManyNumbers(t *testing.T) {
	for _, p := range samples(t) {
		for i := range p.V {
			expectItemsError(t, api.Packet{ID: p.ID, V: p.V[:i]}, api.ErrValue)
		}
		for _, more := range [][]int{{0}, {1}, {-1}, {0, 0, 0}, make([]int, 3000)} {
			expectItemsError(t, api.Packet{ID: p.ID, V: slices.Concat(p.V, more)}, api.ErrValue)
		}
	}
	for _, r := range table {
		expectItemsError(t, api.Packet{ID: r.id}, api.ErrValue)
	}
}

func TestItemsOfUnknownPackets(t *testing.T) {
	for _, v := range [][]int{nil, {1, 5, 100, 7}, {3, 5, 100, 7}, {-1}, make([]int, 3000)} {
		for id := -300; id <= 600; id++ {
			if _, known := textOf(id); !known {
				expectItemsError(t, api.Packet{ID: id, V: v}, api.ErrPacket)
			}
		}
		for _, id := range strange {
			expectItemsError(t, api.Packet{ID: id, V: v}, api.ErrPacket)
		}
	}
}

// long returns the fields of a packet 27 of 58 + 28 * entries + 11 * differences
// bits. There is room for 31 differences in each entry and in the first one.
func long(t *testing.T, entries, differences int) []field {
	t.Helper()
	counts := 0
	fields := fieldsOf(t, 27, func(variable int) int {
		if variable != api.VNIter {
			return 1
		}
		counts++
		if counts == 2 {
			return entries
		}
		n := min(differences, 31)
		differences -= n
		return n
	})
	if differences > 0 {
		t.Fatal("too many differences")
	}
	return fields
}

// sized returns the fields of long packets of exactly these many bits: the
// longest one that may be, and ones that are longer.
func sized(t *testing.T) map[int][]field {
	t.Helper()
	return map[int][]field{
		8184:  long(t, 27, 670),
		8185:  long(t, 29, 665),
		8187:  long(t, 22, 683),
		8191:  long(t, 30, 663),
		8197:  long(t, 31, 661),
		11838: long(t, 31, 992),
	}
}

func TestItemsOfLongPackets(t *testing.T) {
	for size, fields := range sized(t) {
		if sizeOf(fields) != size {
			t.Fatalf("%d bits, want %d", sizeOf(fields), size)
		}
		p := packetOf(fields)
		if size <= api.MaxBits {
			expectItems(t, p, itemsOf(fields))
		} else {
			expectItemsError(t, p, api.ErrLong)
		}
		v := slices.Clone(p.V)
		v[len(v)-1] = 121
		expectItemsError(t, api.Packet{ID: 27, V: v}, api.ErrValue)
		expectItemsError(t, api.Packet{ID: 27, V: append(p.V, 0)}, api.ErrValue)
		expectItemsError(t, api.Packet{ID: 27, V: p.V[:len(p.V)-1]}, api.ErrValue)
		expectItemsError(t, api.Packet{ID: 28, V: p.V}, api.ErrPacket)
	}
}

func TestItemsOwnsWhatItReturns(t *testing.T) {
	for _, c := range plainCases() {
		v := slices.Clone(c.p.V)
		p := api.Packet{ID: c.p.ID, V: v}
		items, _ := Items(p)
		Size(p)
		if !slices.Equal(v, c.p.V) {
			t.Errorf("V has become %v, was %v", v, c.p.V)
		}
		for i := range items {
			items[i] = api.Bits{N: -1, Width: -1}
		}
		if !slices.Equal(v, c.p.V) {
			t.Errorf("V has become %v, was %v", v, c.p.V)
		}
		expectItems(t, p, c.want)

		kept, _ := Items(p)
		for i := range v {
			v[i] = -1
		}
		if !slices.Equal(kept, c.want) {
			t.Errorf("the items have become %v", kept)
		}
	}
}

// Room behind the end of V belongs to the caller, too.
func TestItemsLeavesTheRoomBehindV(t *testing.T) {
	room := []int{1, 5, 100, 7, 1111, 2222}
	Items(api.Packet{ID: 57, V: room[:4]})
	Items(api.Packet{ID: 57, V: room[:3]})
	if !slices.Equal(room, []int{1, 5, 100, 7, 1111, 2222}) {
		t.Errorf("%v", room)
	}
}

// P5.3

const example = "00111001 01 0000000110001 00000101 0001100100 00000111"

func TestGet(t *testing.T) {
	expectGet(t, packed(t, example), 0, api.Packet{ID: 57, V: []int{1, 5, 100, 7}}, 49)
	for _, c := range plainCases() {
		digits := digitsOfItems(t, c.want)
		expectGet(t, packed(t, digits), 0, c.p, len(digits))
	}
	// From a place within a byte to the very end.
	expectGet(t, packed(t, "1010101"+example), 7, api.Packet{ID: 57, V: []int{1, 5, 100, 7}}, 56)
}

func TestGetOutsideOfTheBits(t *testing.T) {
	full := packed(t, example+"1111111")
	for _, b := range [][]byte{nil, {}, {57}, {2}, full} {
		for _, at := range []int{math.MinInt, -1 << 40, -8 * len(b), -8, -1} {
			if at < 0 {
				expectGetError(t, b, at, api.ErrArg)
			}
		}
		for _, more := range []int{1, 2, 7, 8, 9, 64, 1 << 40} {
			expectGetError(t, b, 8*len(b)+more, api.ErrArg)
		}
		expectGetError(t, b, math.MaxInt, api.ErrArg)
		// The end is no place outside, but nothing can be read there.
		expectGetError(t, b, 8*len(b), api.ErrShort)
	}
}

func TestGetOfEveryNumber(t *testing.T) {
	for id := range 256 {
		want := api.ErrPacket
		if _, known := textOf(id); known {
			want = api.ErrShort
		}
		expectGetError(t, []byte{byte(id)}, 0, want)
		expectGetError(t, packed(t, "101"+field{api.VNidPacket, id}.digits())[:2], 3, want)
		if want == api.ErrPacket {
			expectGetError(t, []byte{byte(id), 0, 0, 0}, 0, want)
			expectGetError(t, []byte{byte(id), 255, 255, 255}, 0, want)
		}
	}
}

// ending returns bytes whose very last bits are the digits, and where these
// begin.
func ending(t *testing.T, digits string) ([]byte, int) {
	t.Helper()
	before := (8 - len(digits)%8) % 8
	return packed(t, strings.Repeat("1", before)+digits), before
}

func expectError(t *testing.T, digits string, want api.Errno) {
	t.Helper()
	b, at := ending(t, digits)
	expectGetError(t, b, at, want)
}

// fitting returns the numbers that fit into the variable but are not valid.
func fitting(variable int) []int {
	var out []int
	for n := vars.Most(variable) + 1; n < 1<<vars.Width(variable); n++ {
		if !vars.May(variable, n) {
			out = append(out, n)
		}
	}
	return out
}

// Nothing behind an invalid value matters, not even whether there is anything.
func TestGetOfInvalidValues(t *testing.T) {
	count := 0
	for _, c := range plainCases() {
		for i, f := range fieldsOfPacket(t, c.p) {
			if i == 0 {
				continue
			}
			for _, n := range fitting(f.variable) {
				count++
				fields := fieldsOfPacket(t, c.p)
				fields[i].n = n
				expectError(t, digitsOf(fields), api.ErrValue)
				expectError(t, digitsOf(fields[:i+1]), api.ErrValue)
				expectError(t, digitsOf(fields[:i+1])+"0000000", api.ErrValue)
				// One bit less, and the value is not there.
				digits := digitsOf(fields[:i+1])
				expectError(t, digits[:len(digits)-1], api.ErrShort)
				// Whatever else is wrong comes later.
				withLength(fields, 0)
				expectError(t, digitsOf(fields), api.ErrValue)
			}
		}
	}
	if count < 20 {
		t.Errorf("only %d invalid values", count)
	}
}

func TestGetOfWrongLengths(t *testing.T) {
	for _, c := range plainCases() {
		fields := fieldsOfPacket(t, c.p)
		size := sizeOf(fields)
		for length := range 1 << 13 {
			withLength(fields, length)
			if length != size {
				expectError(t, digitsOf(fields), api.ErrValue)
			}
		}
		// That L_PACKET is wrong counts behind the last variable only.
		for _, length := range []int{0, 21, size - 1, size + 1, api.MaxBits + 1, 1<<13 - 1} {
			withLength(fields, length)
			digits := digitsOf(fields)
			expectError(t, digits[:size-1], api.ErrShort)
			expectError(t, digits+strings.Repeat("0", 2*size), api.ErrValue)
		}
	}
}

func TestGetOfLongPackets(t *testing.T) {
	for size, fields := range sized(t) {
		p := packetOf(fields)
		for _, length := range []int{0, 8184, 8185, 8187, 8190, 8191, size & 8191, (size - 1) & 8191, (size + 1) & 8191} {
			withLength(fields, length)
			digits := digitsOf(fields)
			b, at := ending(t, digits)
			switch {
			case length != size:
				expectGetError(t, b, at, api.ErrValue)
			case size > api.MaxBits:
				expectGetError(t, b, at, api.ErrLong)
			default:
				expectGet(t, b, at, p, at+size)
			}
			expectError(t, digits[:size-1], api.ErrShort)
		}
	}
}

func TestGetOwnsWhatItReturns(t *testing.T) {
	for _, c := range plainCases() {
		b := packed(t, "110"+digitsOfItems(t, c.want))
		before := bytes.Clone(b)
		p, _, _ := Get(b, 3)
		if !bytes.Equal(b, before) {
			t.Errorf("the bytes have become %x, were %x", b, before)
		}
		for i := range b {
			b[i] = ^b[i]
		}
		if !same(p, c.p) {
			t.Errorf("the packet has become %v, was %v", p, c.p)
		}
		for i := range p.V {
			p.V[i] = -1
		}
		copy(b, before)
		if q, _, _ := Get(b, 3); !same(q, c.p) {
			t.Errorf("%v, was %v", q, c.p)
		}
	}
}

// P5.4

func TestDecodingWhatWasEncoded(t *testing.T) {
	for _, p := range samples(t) {
		items, err := Items(p)
		if err != api.OK {
			t.Fatalf("%v: %d", p, err)
		}
		digits := digitsOfItems(t, items)
		expectGet(t, packed(t, digits), 0, p, len(digits))
	}
}

// decoded returns the packet that the chapter finds in the digits from at on,
// and the place behind it, or the error.
func decoded(digits string, at int) (api.Packet, int, api.Errno) {
	var p api.Packet
	err, next, length := api.OK, at, 0
	read := func(variable int) int {
		if err != api.OK {
			return 0
		}
		width := vars.Width(variable)
		if len(digits) < next+width {
			err = api.ErrShort
			return 0
		}
		n, _ := strconv.ParseInt(digits[next:next+width], 2, 64)
		next += width
		if !vars.May(variable, int(n)) {
			err = api.ErrValue
		}
		return int(n)
	}
	p.ID = read(api.VNidPacket)
	text, known := textOf(p.ID)
	if err == api.OK && !known {
		err = api.ErrPacket
	}
	if err == api.OK {
		spell(wordsOf(text), func(variable int) int {
			n := read(variable)
			if variable == api.VLPacket {
				length = n
			} else {
				p.V = append(p.V, n)
			}
			return n
		})
	}
	switch {
	case err != api.OK:
	case length != next-at:
		err = api.ErrValue
	case length > api.MaxBits:
		err = api.ErrLong
	default:
		return p, next, api.OK
	}
	return api.Packet{}, 0, err
}

// binary returns the bits of b.
func binary(b []byte) string {
	var out strings.Builder
	for _, x := range b {
		s := strconv.FormatInt(int64(x), 2)
		out.WriteString(strings.Repeat("0", 8-len(s)) + s)
	}
	return out.String()
}

// Bytes that look random, most of which are packets up to a bit or two.
func TestEncodingWhatWasDecoded(t *testing.T) {
	d := dice(1)
	count := map[api.Errno]int{}
	for _, p := range slices.Concat(samples(t), samples(t), samples(t), samples(t)) {
		before := d.below(20)
		digits := ""
		for range before {
			digits += strconv.Itoa(d.below(2))
		}
		digits += digitsOf(fieldsOfPacket(t, p))
		b := packed(t, digits+strings.Repeat("1", d.below(20)))
		for range d.below(3) {
			b[d.below(len(b))] ^= 1 << d.below(8)
		}
		b = b[:len(b)-d.below(2)*d.below(len(b))/4]
		at := min(before, 8*len(b))
		want, wantNext, wantErr := decoded(binary(b), at)
		q, next, err := Get(b, at)
		count[err]++
		if err != wantErr || !same(q, want) || next != wantNext {
			t.Errorf("Get(%x, %d): %v %d %d, want %v %d %d", b, at, q, next, err, want, wantNext, wantErr)
			continue
		}
		if err != api.OK {
			continue
		}
		items, err := Items(q)
		if have := digitsOfItems(t, items); err != api.OK || have != binary(b)[at:next] {
			t.Errorf("Items(%v): %s %d, want %s", q, have, err, binary(b)[at:next])
		}
	}
	if count[api.OK] < 100 || count[api.ErrShort] < 20 || count[api.ErrValue] < 20 || count[api.ErrPacket] < 20 {
		t.Errorf("%v", count)
	}
}

func TestBitsBeforeAndAfterDoNotMatter(t *testing.T) {
	for _, c := range plainCases() {
		digits := digitsOfItems(t, c.want)
		for before := range 40 {
			for _, around := range []string{"0", "1"} {
				b := packed(t, strings.Repeat(around, before)+digits+strings.Repeat(around, 30))
				expectGet(t, b, before, c.p, before+len(digits))
			}
		}
		// Packets that stand before and after it.
		b := packed(t, example+digits+example)
		expectGet(t, b, 49, c.p, 49+len(digits))
		expectGet(t, b, 49+len(digits), api.Packet{ID: 57, V: []int{1, 5, 100, 7}}, 98+len(digits))
		expectGet(t, append(make([]byte, 5000), b...), 8*5000+49, c.p, 8*5000+49+len(digits))
	}
}

func TestEveryProperPrefixIsShort(t *testing.T) {
	for _, p := range samples(t) {
		digits := digitsOf(fieldsOfPacket(t, p))
		for n := range len(digits) {
			b, at := ending(t, digits[:n])
			if q, next, err := Get(b, at); err != api.ErrShort || q.ID != 0 || len(q.V) != 0 || next != 0 {
				t.Fatalf("%d bits of %v: %v %d %d", n, p, q, next, err)
			}
		}
	}
	for size, fields := range sized(t) {
		if size > api.MaxBits {
			continue
		}
		digits := digitsOf(fields)
		for n := 0; n < size; n += 97 {
			expectError(t, digits[:n], api.ErrShort)
		}
	}
}

// Bytes without any shape.
func TestGetOfNoise(t *testing.T) {
	d := dice(3)
	for range 20000 {
		b := make([]byte, d.below(40))
		for i := range b {
			b[i] = byte(d.below(256))
		}
		if len(b) > 0 {
			b[0] = byte(table[d.below(len(table))].id)
		}
		want, wantNext, wantErr := decoded(binary(b), 0)
		if q, next, err := Get(b, 0); err != wantErr || !same(q, want) || next != wantNext {
			t.Fatalf("Get(%x, 0): %v %d %d, want %v %d %d", b, q, next, err, want, wantNext, wantErr)
		}
	}
}
