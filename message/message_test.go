package message

import (
	"bytes"
	"encoding/hex"
	"math"
	"reflect"
	"slices"
	"strconv"
	"strings"
	"sync"
	"testing"

	"lineside/api"
	"lineside/packet"
	"lineside/vars"
)

// table is the chapter's table without its second column.
const table = `
2 | Q_SCALE D_SR | |
3 | | 15 | 3 5 21 27 57 58 80
8 | T_TRAIN | |
9 | | 15 | 5 80
15 | NID_EM Q_SCALE Q_DIR D_REF D_EMERGENCYSTOP | |
16 | NID_EM | |
18 | NID_EM | |
24 | | | 3 5 21 27 42 57 58
32 | M_VERSION | |
33 | Q_SCALE D_REF | 15 | 5 21 27 80
34 | Q_SCALE D_REF Q_DIR D_LOC L_SECTION | |
38, 39, 40, 41, 43 | | |
129 | | REPORT | 11
130, 136, 149, 150 | | REPORT |
132 | Q_MARQSTREASON | REPORT |
137, 138, 146 | T_TRAIN | |
147 | NID_EM Q_EMERGENCYSTOP | REPORT |
155, 156, 159 | | |
157 | Q_STATUS | REPORT |
`

// row is a message of the table.
type row struct {
	id        int
	up        bool
	variables []int // all between L_MESSAGE and the packets
	own       int   // how many of them are the message's own
	first     []int
	optional  []int
}

var rows = sync.OnceValue(func() []row {
	var out []row
	for line := range strings.Lines(strings.TrimSpace(table)) {
		cells := strings.Split(strings.TrimSpace(line), "|")
		for id := range strings.SplitSeq(cells[0], ",") {
			out = append(out, rowOf(number(id), cells))
		}
	}
	return out
})

func rowOf(id int, cells []string) row {
	r := row{id: id, up: 129 <= id && id <= 159, first: numbers(cells[2]), optional: numbers(cells[3])}
	before := "T_TRAIN M_ACK NID_LRBG "
	if r.up {
		before = "T_TRAIN NID_ENGINE "
	}
	for name := range strings.FieldsSeq(before + cells[1]) {
		r.variables = append(r.variables, vars.Find(name))
	}
	r.own = len(strings.Fields(cells[1]))
	return r
}

func number(s string) int {
	n, err := strconv.Atoi(strings.TrimSpace(s))
	if err != nil {
		panic(err)
	}
	return n
}

func numbers(s string) []int {
	var out []int
	for word := range strings.FieldsSeq(strings.ReplaceAll(s, "REPORT", "0 1")) {
		out = append(out, number(word))
	}
	return out
}

func find(id int) (row, bool) {
	for _, r := range rows() {
		if r.id == id {
			return r, true
		}
	}
	return row{}, false
}

// fits reports whether the packets are as the table requires, by counting.
func (r row) fits(packets []api.Packet) bool {
	count := map[int]int{}
	for i, p := range packets {
		if i > 0 || len(r.first) == 0 {
			count[p.ID]++
		}
	}
	for id, n := range count {
		if n > 1 || !slices.Contains(r.optional, id) {
			return false
		}
	}
	return len(r.first) == 0 || len(packets) > 0 && slices.Contains(r.first, packets[0].ID)
}

// binary returns n as width binary digits.
func binary(n, width int) string {
	s := strconv.FormatInt(int64(n), 2)
	return strings.Repeat("0", width-len(s)) + s
}

// valuesOf returns the numbers of m between L_MESSAGE and the packets.
func valuesOf(m api.Message) []int {
	out := []int{m.T, m.Ack, m.Of}
	if m.ID >= 129 {
		out = []int{m.T, m.Of}
	}
	return append(out, m.V...)
}

func digitsOfPacket(t *testing.T, p api.Packet) string {
	t.Helper()
	items, err := packet.Items(p)
	if err != api.OK {
		t.Fatalf("%v: %d", p, err)
	}
	var out strings.Builder
	for _, item := range items {
		out.WriteString(binary(item.N, item.Width))
	}
	return out.String()
}

// digitsOf returns the binary digits of m behind L_MESSAGE, without those that
// fill the last byte.
func digitsOf(t *testing.T, m api.Message) string {
	t.Helper()
	r, _ := find(m.ID)
	out := ""
	for i, n := range valuesOf(m) {
		out += binary(n, vars.Width(r.variables[i]))
	}
	for _, p := range m.P {
		out += digitsOfPacket(t, p)
	}
	return out
}

// sealed returns the bytes of a message with the number id and the digits that
// stand behind L_MESSAGE.
func sealed(t *testing.T, id int, digits string) []byte {
	t.Helper()
	length := (18 + len(digits) + 7) / 8
	digits = binary(id, 8) + binary(length%1024, 10) + digits
	return packed(t, digits)
}

// packed returns the bytes of binary digits, the last one filled up with zeros.
func packed(t *testing.T, s string) []byte {
	t.Helper()
	s = strings.ReplaceAll(s, " ", "")
	s += strings.Repeat("0", (8-len(s)%8)%8)
	var out []byte
	for ; s != ""; s = s[8:] {
		n, err := strconv.ParseUint(s[:8], 2, 8)
		if err != nil {
			t.Fatal(err)
		}
		out = append(out, byte(n))
	}
	return out
}

func digitsOfBytes(b []byte) string {
	var out strings.Builder
	for _, c := range b {
		out.WriteString(binary(int(c), 8))
	}
	return out.String()
}

func unhex(t *testing.T, s string) []byte {
	t.Helper()
	b, err := hex.DecodeString(strings.ReplaceAll(s, " ", ""))
	if err != nil {
		t.Fatal(err)
	}
	return b
}

// packetOf returns a packet of every number that there is.
func packetOf(id int) api.Packet {
	v := map[int][]int{
		0:  {1, 77, 30, 1, 2, 3, 4, 1, 400, 20, 2, 14, 1, 8},
		1:  {2, 77, 78, 30, 0, 1, 3, 4, 3, 127, 1, 5, 4},
		3:  {1, 0, 500, 2, 9, 1023, 30, 2, 255},
		5:  {1, 0, 100, 1, 9, 33, 1, 2, 12, 1, 200, 0, 34, 0, 1, 63},
		11: {99, 1, 400, 60, 5, 127, 1, 1, 7, 2, 8, 9},
		15: {1, 0, 20, 30, 1, 500, 1, 60, 9, 700, 0, 1, 30, 5, 1, 10, 126, 1, 3, 4, 5, 127},
		21: {0, 2, 40, 1, 255, 1, 41, 0, 3},
		27: {1, 1, 0, 127, 1, 1, 2, 8, 1, 500, 20, 0, 2, 1, 5, 2, 6},
		42: {2, 1, 1023, 16383, 1, 1<<32 - 1, 0},
		57: {1, 5, 100, 7},
		58: {1, 1, 255, 32767, 2, 2, 5, 1, 6, 0},
		80: {1, 1, 10, 2, 127, 11, 12, 1, 1, 20, 1, 30, 21, 22, 0},
	}
	return api.Packet{ID: id, V: slices.Clone(v[id])}
}

var packetNumbers = []int{0, 1, 3, 5, 11, 15, 21, 27, 42, 57, 58, 80}

func packetsOf(ids ...int) []api.Packet {
	var out []api.Packet
	for _, id := range ids {
		out = append(out, packetOf(id))
	}
	return out
}

// sample returns a message of the row with the packets.
func (r row) sample(packets []api.Packet) api.Message {
	m := api.Message{ID: r.id, T: 0x12345678, Of: 0xabcdef, P: packets}
	if !r.up {
		m.Ack = 1
	}
	for _, v := range r.variables[len(r.variables)-r.own:] {
		m.V = append(m.V, max(0, vars.Most(v)-1))
	}
	return m
}

// required returns the packets that a message of the row has at least.
func (r row) required() []api.Packet {
	if len(r.first) == 0 {
		return nil
	}
	return packetsOf(r.first[0])
}

// dice yields numbers that look random.
type dice uint64

func (d *dice) below(n int) int {
	*d = *d*6364136223846793005 + 1442695040888963407
	return int(*d>>33) % n
}

// valid returns a valid value of the variable, often one at a bound.
func (d *dice) valid(variable int) int {
	most := vars.Most(variable)
	switch d.below(4) {
	case 0:
		return 0
	case 1:
		return most
	}
	return d.below(most + 1)
}

// message returns a message of the row with optional packets in any order.
func (d *dice) message(r row) api.Message {
	m := api.Message{ID: r.id, T: d.valid(api.VTTrain), Of: d.valid(api.VNidLrbg)}
	if !r.up {
		m.Ack = d.below(2)
	}
	for _, v := range r.variables[len(r.variables)-r.own:] {
		m.V = append(m.V, d.valid(v))
	}
	if len(r.first) > 0 {
		m.P = packetsOf(r.first[d.below(len(r.first))])
	}
	rest := slices.Clone(r.optional)
	for len(rest) > 0 && d.below(5) > 0 {
		i := d.below(len(rest))
		m.P = append(m.P, packetOf(rest[i]))
		rest = slices.Delete(rest, i, i+1)
	}
	return m
}

// samples returns messages of every number, of many shapes.
func samples(t *testing.T) []api.Message {
	t.Helper()
	var out []api.Message
	for _, r := range rows() {
		d := dice(r.id)
		out = append(out, r.sample(r.required()))
		for range 15 {
			out = append(out, d.message(r))
		}
	}
	return out
}

func same(m, n api.Message) bool {
	return m.ID == n.ID && m.T == n.T && m.Ack == n.Ack && m.Of == n.Of && slices.Equal(m.V, n.V) &&
		slices.EqualFunc(m.P, n.P, func(p, q api.Packet) bool { return p.ID == q.ID && slices.Equal(p.V, q.V) })
}

func isZero(m api.Message) bool {
	return m.ID == 0 && m.T == 0 && m.Ack == 0 && m.Of == 0 && len(m.V) == 0 && len(m.P) == 0
}

func expectEncode(t *testing.T, m api.Message, want []byte) {
	t.Helper()
	if have, err := Encode(m); err != api.OK || !bytes.Equal(have, want) {
		t.Errorf("Encode(%v): %x %d, want %x", m, have, err, want)
	}
}

func expectEncodeError(t *testing.T, m api.Message, want api.Errno) {
	t.Helper()
	if have, err := Encode(m); err != want || len(have) != 0 {
		t.Errorf("Encode(%v): %x %d, want %d", m, have, err, want)
	}
}

func expectDecode(t *testing.T, b []byte, want api.Message) {
	t.Helper()
	if have, err := Decode(b); err != api.OK || !same(have, want) {
		t.Errorf("Decode(%x): %v %d, want %v", b, have, err, want)
	}
}

func expectDecodeError(t *testing.T, b []byte, want api.Errno) {
	t.Helper()
	if have, err := Decode(b); err != want || !isZero(have) {
		t.Errorf("Decode(%x): %v %d, want %d", b, have, err, want)
	}
}

// The limits and errors of the chapter are those of api.

func TestLimits(t *testing.T) {
	if api.MaxBytes != 1023 || api.ErrLong != 2 || api.ErrNone != 4 || api.ErrForm != 8 || api.ErrShort != 10 || api.ErrValue != 20 || api.ErrPacket != 50 {
		t.Error("a constant of api differs")
	}
}

// P6.1

// strange are numbers beyond every table, some of which become the number of a
// message when their high bits are lost.
var strange = []int{math.MinInt, math.MinInt + 16, -1 << 32, -256 + 16, -16, -129, -1, 256 + 16, 256 + 136, 1<<16 + 3, 1<<32 + 16, 1<<32 + 155, 1 << 40, math.MaxInt}

func TestKnownAndUp(t *testing.T) {
	count := 0
	for id := -600; id <= 600; id++ {
		r, known := find(id)
		if Known(id) != known {
			t.Errorf("Known(%d): %t", id, !known)
		}
		if Up(id) != r.up {
			t.Errorf("Up(%d): %t", id, !r.up)
		}
		if known {
			count++
		}
	}
	if count != 30 {
		t.Errorf("%d messages", count)
	}
	for _, id := range strange {
		if Known(id) || Up(id) {
			t.Errorf("there is a message %d", id)
		}
	}
}

// P6.2

func TestEncodeExamples(t *testing.T) {
	for _, c := range []struct {
		m    api.Message
		want string
	}{
		{api.Message{ID: 16, T: 256, Ack: 1, Of: 77, V: []int{3}}, "10 02 80 00 00 40 20 00 09 A6"},
		{api.Message{ID: 24}, "18 02 80 00 00 00 00 00 00 00"},
		{api.Message{ID: 38, T: 1<<32 - 1, Ack: 1, Of: 1<<24 - 1}, "26 02 bf ff ff ff ff ff ff e0"},
		{api.Message{ID: 155, T: 1, Of: 3}, "9b 02 80 00 00 00 40 00 00 c0"},
		{api.Message{ID: 24, P: []api.Packet{{ID: 57, V: []int{1, 5, 100, 7}}}}, "18 04 00 00 00 00 00 00 00 07 28 0c 41 46 40 70"},
	} {
		expectEncode(t, c.m, unhex(t, c.want))
	}
	expectEncodeError(t, api.Message{ID: 3}, api.ErrPacket)
	expectEncodeError(t, api.Message{ID: 16}, api.ErrValue)
	expectEncodeError(t, api.Message{ID: 7}, api.ErrNone)
}

// The variables of the head and of the message itself one by one, with values
// that differ.
func TestEncodeOfEveryNumber(t *testing.T) {
	for _, r := range rows() {
		m := r.sample(r.required())
		expectEncode(t, m, sealed(t, m.ID, digitsOf(t, m)))
		for i := range m.V {
			n := r.sample(r.required())
			n.V[i] = 0
			expectEncode(t, n, sealed(t, n.ID, digitsOf(t, n)))
		}
		if !r.up {
			m.Ack = 0
			expectEncode(t, m, sealed(t, m.ID, digitsOf(t, m)))
		}
	}
}

func TestEncodeOfManyShapes(t *testing.T) {
	for _, m := range samples(t) {
		expectEncode(t, m, sealed(t, m.ID, digitsOf(t, m)))
	}
}

func TestEncodeOfNoMessage(t *testing.T) {
	for id := -300; id <= 300; id++ {
		if _, known := find(id); !known {
			expectEncodeError(t, api.Message{ID: id}, api.ErrNone)
			expectEncodeError(t, api.Message{ID: id, V: []int{1}, P: packetsOf(15)}, api.ErrNone)
		}
	}
	for _, id := range strange {
		expectEncodeError(t, api.Message{ID: id}, api.ErrNone)
	}
}

// outside are numbers that the variable may not have.
func outside(variable int) []int {
	return append(strange[:7:7], vars.Most(variable)+1, 1<<vars.Width(variable), 1<<32, 1<<40, math.MaxInt)
}

func TestEncodeOfInvalidNumbers(t *testing.T) {
	for _, r := range rows() {
		for _, n := range outside(api.VTTrain) {
			m := r.sample(r.required())
			m.T = n
			expectEncodeError(t, m, api.ErrValue)
		}
		for _, n := range outside(api.VNidLrbg) {
			m := r.sample(r.required())
			m.Of = n
			expectEncodeError(t, m, api.ErrValue)
		}
		for _, n := range outside(api.VMAck) {
			m := r.sample(r.required())
			m.Ack = n
			expectEncodeError(t, m, api.ErrValue)
		}
		for i, v := range r.variables[len(r.variables)-r.own:] {
			for _, n := range outside(v) {
				m := r.sample(r.required())
				m.V[i] = n
				expectEncodeError(t, m, api.ErrValue)
			}
		}
	}
}

func TestEncodeOfAnAckThatIsSentUp(t *testing.T) {
	for _, r := range rows() {
		if r.up {
			m := r.sample(r.required())
			m.Ack = 1
			expectEncodeError(t, m, api.ErrValue)
		}
	}
}

// Every value of a variable that has few of them, by what chapter 2 says.
func TestEncodeOfEveryDirectionAndScale(t *testing.T) {
	for n := range 5 {
		want := api.ErrValue
		if n <= 2 {
			want = api.OK
		}
		for _, v := range [][]int{{3, n, 0, 5, 6}, {3, 0, n, 5, 6}} {
			if _, err := Encode(api.Message{ID: 15, V: v}); err != want {
				t.Errorf("%v: %d", v, err)
			}
		}
	}
}

func TestEncodeOfTooFewAndTooManyNumbers(t *testing.T) {
	for _, r := range rows() {
		m := r.sample(r.required())
		for n := range r.own {
			short := m
			short.V = m.V[:n]
			expectEncodeError(t, short, api.ErrValue)
		}
		for _, n := range []int{1, 2, 3, 100} {
			long := m
			long.V = slices.Concat(m.V, make([]int, n))
			expectEncodeError(t, long, api.ErrValue)
		}
	}
}

func TestEncodeOfPacketsThatCannotBe(t *testing.T) {
	long := api.Packet{ID: 27, V: longSpeeds()}
	for _, r := range rows() {
		for _, c := range []struct {
			p    api.Packet
			want api.Errno
		}{
			{api.Packet{ID: 99}, api.ErrPacket},
			{api.Packet{ID: -1}, api.ErrPacket},
			{api.Packet{ID: 256 + 15}, api.ErrPacket},
			{api.Packet{ID: 57, V: []int{3, 5, 100, 7}}, api.ErrValue},
			{api.Packet{ID: 57, V: []int{1, 5, 100}}, api.ErrValue},
			{api.Packet{ID: 57, V: []int{1, 5, 100, 7, 0}}, api.ErrValue},
			{api.Packet{ID: 0}, api.ErrValue},
			{long, api.ErrLong},
		} {
			// It comes first, or last, or in the middle of others.
			before, after := r.required(), packetsOf(r.optional...)
			expectEncodeError(t, r.sample([]api.Packet{c.p}), c.want)
			expectEncodeError(t, r.sample(append(before, c.p)), c.want)
			expectEncodeError(t, r.sample(slices.Concat(before, []api.Packet{c.p}, after)), c.want)
			expectEncodeError(t, r.sample(slices.Concat(before, after, []api.Packet{c.p})), c.want)
		}
	}
}

// longSpeeds returns the numbers of a packet 27 that has more than MaxBits bits.
func longSpeeds() []int {
	entry := []int{1, 2, 0, 31}
	for range 31 {
		entry = append(entry, 1, 2)
	}
	v := slices.Concat([]int{1, 0}, entry, []int{31})
	for range 31 {
		v = append(v, entry...)
	}
	return v
}

func TestEncodeOfTheFirstPacketThatCannotBe(t *testing.T) {
	value := api.Packet{ID: 57, V: []int{3, 5, 100, 7}}
	none := api.Packet{ID: 99}
	long := api.Packet{ID: 27, V: longSpeeds()}
	for _, id := range []int{3, 24, 38, 129, 155} {
		for _, c := range []struct {
			packets []api.Packet
			want    api.Errno
		}{
			{[]api.Packet{value, none, long}, api.ErrValue},
			{[]api.Packet{none, value, long}, api.ErrPacket},
			{[]api.Packet{long, value, none}, api.ErrLong},
			{[]api.Packet{packetOf(15), packetOf(15), long, value, none}, api.ErrLong},
			{[]api.Packet{packetOf(0), packetOf(57), value, long, none}, api.ErrValue},
		} {
			expectEncodeError(t, api.Message{ID: id, P: c.packets}, c.want)
		}
	}
}

// All lists of up to two packets, and all of three whose first one is allowed.
func TestEncodeOfPacketsThatTheTableRequires(t *testing.T) {
	for _, r := range rows() {
		expectShape(t, r, nil)
		for _, a := range packetNumbers {
			expectShape(t, r, packetsOf(a))
			for _, b := range packetNumbers {
				expectShape(t, r, packetsOf(a, b))
				if !r.fits(packetsOf(a)) {
					continue
				}
				for _, c := range packetNumbers {
					expectShape(t, r, packetsOf(a, b, c))
				}
			}
		}
		for _, first := range r.first {
			all := append(packetsOf(first), packetsOf(r.optional...)...)
			expectShape(t, r, all)
			slices.Reverse(all[1:])
			expectShape(t, r, all)
			expectShape(t, r, append(all, packetsOf(r.optional...)...))
			slices.Reverse(all)
			expectShape(t, r, all)
		}
	}
}

// expectShape encodes and decodes a message of the row with the packets.
func expectShape(t *testing.T, r row, packets []api.Packet) {
	t.Helper()
	m := r.sample(packets)
	b := sealed(t, m.ID, digitsOf(t, m))
	if r.fits(packets) {
		expectEncode(t, m, b)
		expectDecode(t, b, m)
		return
	}
	expectEncodeError(t, m, api.ErrPacket)
	expectDecodeError(t, b, api.ErrPacket)
}

// A list of 15, 0, 1 or 11 where it may not stand.
func TestEncodeOfTheMandatoryPacketTwice(t *testing.T) {
	for _, c := range []struct {
		id  int
		ids []int
	}{
		{3, []int{15, 15}}, {3, []int{15, 3, 15}}, {3, []int{3, 15}}, {3, []int{15, 3, 3}}, {3, []int{15, 3, 5, 3}}, {9, []int{15, 3}},
		{33, []int{15, 58}}, {33, []int{5, 15}}, {129, []int{11}}, {129, []int{11, 0}}, {129, []int{0, 11, 11}}, {129, []int{0, 1}},
		{129, []int{1, 0}}, {129, []int{0, 0}}, {136, []int{0, 0}}, {136, []int{0, 11}}, {136, []int{15}}, {24, []int{80}}, {24, []int{15}},
		{24, []int{42, 42}}, {38, []int{57}}, {155, []int{0}}, {137, []int{1}}, {16, []int{57}},
	} {
		r, _ := find(c.id)
		expectEncodeError(t, r.sample(packetsOf(c.ids...)), api.ErrPacket)
	}
}

// speeds returns a packet 27 of about size bits: its first entry has n pairs
// in it, the others have none.
func speeds(entries, n int) api.Packet {
	v := []int{1, 0, 1, 2, 0, n}
	for range n {
		v = append(v, 1, 2)
	}
	v = append(v, entries)
	for range entries {
		v = append(v, 1, 2, 0, 31)
		for range 31 {
			v = append(v, 3, 4)
		}
	}
	return api.Packet{ID: 27, V: v}
}

// around returns messages 24 of many sizes near MaxBits, by their numbers of bits.
func around() map[int]api.Message {
	out := map[int]api.Message{}
	for n := range 32 {
		for entries := 20; entries <= 22; entries++ {
			long := speeds(entries, n)
			for _, ids := range [][]int{nil, {57}, {58}, {57, 58}, {3}, {3, 57}, {3, 58}, {21}, {21, 57}, {5}, {5, 57}, {5, 3}, {42}, {42, 57}, {42, 58}, {42, 3, 57}, {42, 21}} {
				m := api.Message{ID: 24, T: 9, Of: 5, P: append([]api.Packet{long}, packetsOf(ids...)...)}
				size := 75
				for _, p := range m.P {
					size += packet.Size(p)
				}
				if packet.Size(long) > 0 && size > api.MaxBits-40 && size < api.MaxBits+40 {
					out[size] = m
				}
			}
		}
	}
	return out
}

func TestEncodeOfLongMessages(t *testing.T) {
	most, least := 0, math.MaxInt
	for size, m := range around() {
		if size > api.MaxBits {
			least = min(least, size)
			expectEncodeError(t, m, api.ErrLong)
			continue
		}
		most = max(most, size)
		b := sealed(t, m.ID, digitsOf(t, m))
		expectEncode(t, m, b)
		expectDecode(t, b, m)
	}
	if most != api.MaxBits || least != api.MaxBits+1 {
		t.Errorf("the longest message has %d bits, the shortest one that is too long has %d", most, least)
	}
}

// Packets of which each one fits.
func TestEncodeOfLongPacketsTogether(t *testing.T) {
	long := speeds(21, 10)
	links := api.Packet{ID: 5, V: []int{1, 0, 100, 0, 33, 1, 2, 12, 31}}
	for range 31 {
		links.V = append(links.V, 100, 0, 33, 1, 2, 12)
	}
	if packet.Size(long) < 7000 || packet.Size(links) < 1200 {
		t.Fatal("the packets are not long")
	}
	expectEncodeError(t, api.Message{ID: 3, P: []api.Packet{packetOf(15), long, links}}, api.ErrLong)
	expectEncodeError(t, api.Message{ID: 3, P: []api.Packet{packetOf(15), links, long, packetOf(57)}}, api.ErrLong)
	expectEncodeError(t, api.Message{ID: 24, P: []api.Packet{long, links}}, api.ErrLong)
	// What the table does not allow is named first.
	expectEncodeError(t, api.Message{ID: 24, P: []api.Packet{long, long}}, api.ErrPacket)
	expectEncodeError(t, api.Message{ID: 3, P: []api.Packet{long, links}}, api.ErrPacket)
	expectEncodeError(t, api.Message{ID: 155, P: []api.Packet{long, links}}, api.ErrPacket)
	many := api.Message{ID: 24}
	for range 1000 {
		many.P = append(many.P, long)
	}
	expectEncodeError(t, many, api.ErrPacket)
	many.P = append(many.P, api.Packet{ID: 57})
	expectEncodeError(t, many, api.ErrValue)
}

func TestEncodeReturnsTheFirstError(t *testing.T) {
	bad := []api.Packet{{ID: 57, V: []int{3, 5, 100, 7}}}
	for _, c := range []struct {
		m    api.Message
		want api.Errno
	}{
		{api.Message{ID: 7, T: -1, Ack: 2, Of: -1, V: []int{1}, P: bad}, api.ErrNone},
		{api.Message{ID: 300, P: []api.Packet{{ID: 99}}}, api.ErrNone},
		{api.Message{ID: 3, T: -1, P: []api.Packet{{ID: 99}}}, api.ErrValue},
		{api.Message{ID: 3, Of: 1 << 24, P: []api.Packet{{ID: 27, V: longSpeeds()}}}, api.ErrValue},
		{api.Message{ID: 16, P: []api.Packet{{ID: 99}}}, api.ErrValue},
		{api.Message{ID: 16, V: []int{16}, P: packetsOf(15)}, api.ErrValue},
		{api.Message{ID: 155, Ack: 1, P: packetsOf(15)}, api.ErrValue},
		{api.Message{ID: 136, V: []int{0}}, api.ErrValue},
		{api.Message{ID: 155, P: bad}, api.ErrValue},
		{api.Message{ID: 155, P: []api.Packet{{ID: 27, V: longSpeeds()}}}, api.ErrLong},
		{api.Message{ID: 155, P: packetsOf(57)}, api.ErrPacket},
	} {
		expectEncodeError(t, c.m, c.want)
	}
}

// P6.3

// decoded is the message of bytes, or the error, as the chapter says it; packets
// are left to packet.Get.
func decoded(t *testing.T, b []byte) (api.Message, api.Errno) {
	t.Helper()
	digits := digitsOfBytes(b)
	at := 0
	get := func(variable int) (int, bool) {
		end := at + vars.Width(variable)
		if end > len(digits) {
			return 0, false
		}
		n, err := strconv.ParseInt(digits[at:end], 2, 64)
		if err != nil {
			t.Fatal(err)
		}
		at = end
		return int(n), true
	}
	id, ok := get(api.VNidMessage)
	if !ok {
		return api.Message{}, api.ErrShort
	}
	r, known := find(id)
	if !known {
		return api.Message{}, api.ErrNone
	}
	if length, ok := get(api.VLMessage); !ok {
		return api.Message{}, api.ErrShort
	} else if length != len(b) {
		return api.Message{}, api.ErrForm
	}
	m := api.Message{ID: id}
	fields := []*int{&m.T, &m.Ack, &m.Of}
	if r.up {
		fields = []*int{&m.T, &m.Of}
	}
	m.V = make([]int, r.own)
	for i := range m.V {
		fields = append(fields, &m.V[i])
	}
	for i, v := range r.variables {
		n, ok := get(v)
		if !ok {
			return api.Message{}, api.ErrShort
		}
		if !vars.May(v, n) {
			return api.Message{}, api.ErrValue
		}
		*fields[i] = n
	}
	for len(digits)-at >= 8 {
		p, next, err := packet.Get(b, at)
		if err != api.OK {
			return api.Message{}, err
		}
		m.P, at = append(m.P, p), next
	}
	if strings.Contains(digits[at:], "1") {
		return api.Message{}, api.ErrForm
	}
	if !r.fits(m.P) {
		return api.Message{}, api.ErrPacket
	}
	return m, api.OK
}

func expectDecoded(t *testing.T, b []byte) {
	t.Helper()
	want, wantErr := decoded(t, b)
	if m, err := Decode(b); err != wantErr || !same(m, want) {
		t.Errorf("Decode(%x): %v %d, want %v %d", b, m, err, want, wantErr)
	}
}

func TestDecodeExamples(t *testing.T) {
	expectDecode(t, unhex(t, "10 02 80 00 00 40 20 00 09 A6"), api.Message{ID: 16, T: 256, Ack: 1, Of: 77, V: []int{3}})
	expectDecode(t, unhex(t, "26 02 bf ff ff ff ff ff ff e0"), api.Message{ID: 38, T: 1<<32 - 1, Ack: 1, Of: 1<<24 - 1})
	expectDecode(t, unhex(t, "9b 02 80 00 00 00 40 00 00 c0"), api.Message{ID: 155, T: 1, Of: 3})
	expectDecode(t, unhex(t, "18 04 00 00 00 00 00 00 00 07 28 0c 41 46 40 70"), api.Message{ID: 24, P: packetsOf(57)})
	expectDecodeError(t, unhex(t, "10 02 80 00 00 40 20 00 09 A7"), api.ErrForm)
}

func TestDecodeOfManyShapes(t *testing.T) {
	for _, m := range samples(t) {
		expectDecode(t, sealed(t, m.ID, digitsOf(t, m)), m)
	}
}

func TestDecodeOfEveryFirstByte(t *testing.T) {
	expectDecodeError(t, nil, api.ErrShort)
	expectDecodeError(t, []byte{}, api.ErrShort)
	for id := range 256 {
		want, wantBad := api.ErrNone, api.ErrNone
		if _, known := find(id); known {
			want, wantBad = api.ErrShort, api.ErrForm
		}
		expectDecodeError(t, []byte{byte(id)}, want)
		expectDecodeError(t, []byte{byte(id), 0}, want)
		expectDecodeError(t, []byte{byte(id), 0, 0}, wantBad)
		expectDecodeError(t, bytes.Repeat([]byte{byte(id)}, 200), wantBad)
	}
}

// cut returns the first n bytes of b, with n as L_MESSAGE.
func cut(t *testing.T, b []byte, n int) []byte {
	t.Helper()
	digits := digitsOfBytes(b[:n])
	return packed(t, digits[:8]+binary(n, 10)+digits[18:])
}

// Messages of which L_MESSAGE tells how much of them is there.
func TestDecodeOfBitsThatEnd(t *testing.T) {
	for _, m := range samples(t) {
		b := sealed(t, m.ID, digitsOf(t, m))
		head := digitsOf(t, api.Message{ID: m.ID, T: m.T, Ack: m.Ack, Of: m.Of, V: m.V})
		for n := 3; n < len(b); n++ {
			if 8*n < 18+len(head) {
				expectDecodeError(t, cut(t, b, n), api.ErrShort)
			} else {
				expectDecoded(t, cut(t, b, n))
			}
		}
	}
}

// A packet whose bits end too early.
func TestDecodeOfAPacketThatEnds(t *testing.T) {
	for _, r := range rows() {
		for _, id := range packetNumbers {
			m := r.sample(append(r.required(), packetOf(id)))
			digits := digitsOf(t, m)
			for taken := 1; len(digits)-taken > len(digits)-len(digitsOfPacket(t, packetOf(id)))+8; taken += 7 {
				size := 18 + len(digits) - taken
				if size%8 != 0 {
					continue
				}
				expectDecodeError(t, sealed(t, m.ID, digits[:len(digits)-taken]), api.ErrShort)
			}
		}
	}
}

func TestDecodeOfAnotherLength(t *testing.T) {
	for _, m := range samples(t) {
		b := sealed(t, m.ID, digitsOf(t, m))
		digits := digitsOfBytes(b)
		for _, n := range []int{0, 1, len(b) - 1, len(b) + 1, 2 * len(b), len(b) | 512, 1023} {
			expectDecodeError(t, packed(t, digits[:8]+binary(n, 10)+digits[18:]), api.ErrForm)
		}
	}
}

// More bytes than L_MESSAGE can tell.
func TestDecodeOfMoreBytesThanAMessageHas(t *testing.T) {
	m := api.Message{ID: 24}
	digits := digitsOf(t, m)
	for _, n := range []int{1024, 1024 + 10, 2047, 2048} {
		b := packed(t, binary(24, 8)+binary(n%1024, 10)+digits+strings.Repeat("0", 8*n-18-len(digits)))
		expectDecodeError(t, b, api.ErrForm)
	}
}

func TestDecodeOfInvalidNumbers(t *testing.T) {
	for _, c := range []struct {
		id     int
		digits string
		want   api.Errno
	}{
		{2, "11" + binary(5, 15), api.ErrValue},
		{2, "11", api.ErrValue}, // the variables behind it are missing
		{2, "10", api.ErrShort},
		{15, "0011 11 01" + binary(5, 16) + binary(6, 15), api.ErrValue},
		{15, "0011 10 11" + binary(5, 16) + binary(6, 15), api.ErrValue},
		{15, "0011 10 11", api.ErrValue},
		{33, "11" + binary(5, 16) + digitsOfPacket(t, packetOf(15)), api.ErrValue},
		{33, "11" + binary(5, 16) + "11111111", api.ErrValue},
		{34, "10" + binary(5, 16) + "11" + binary(5, 15) + binary(6, 15), api.ErrValue},
		{34, "11" + binary(5, 16) + "10" + binary(5, 15) + binary(6, 15), api.ErrValue},
	} {
		head := binary(9, 32) + "1" + binary(7, 24)
		expectDecodeError(t, sealed(t, c.id, head+strings.ReplaceAll(c.digits, " ", "")), c.want)
	}
}

func TestDecodeOfPacketsThatCannotBe(t *testing.T) {
	good := digitsOfPacket(t, packetOf(57))
	value := "00111001 11 0000000110001 00000101 0001100100 00000111"
	length := "00111001 01 0000000110000 00000101 0001100100 00000111"
	for _, c := range []struct {
		digits string
		want   api.Errno
	}{
		{value, api.ErrValue},
		{length, api.ErrValue},
		{"11111111", api.ErrPacket},
		{"11111111" + value, api.ErrPacket},
		{good + value, api.ErrValue},
		{good + good + value, api.ErrValue},
		{good + good + "10000000", api.ErrPacket},
		{good + "00000000", api.ErrShort},
		{value + good, api.ErrValue},
		{value + "1111", api.ErrValue},
		{good + good, api.ErrPacket},
	} {
		for _, id := range []int{24, 38, 155, 136} {
			head := digitsOf(t, api.Message{ID: id, T: 5, Of: 6})
			b := sealed(t, id, head+strings.ReplaceAll(c.digits, " ", ""))
			expectDecodeError(t, b, c.want)
		}
	}
}

// Every bit that fills the last byte, and packets that the table does not allow
// beside it.
func TestDecodeOfBitsBehindThePackets(t *testing.T) {
	for _, m := range samples(t) {
		digits := digitsOf(t, m)
		b := sealed(t, m.ID, digits)
		for i := 18 + len(digits); i < 8*len(b); i++ {
			c := bytes.Clone(b)
			c[i/8] |= 128 >> (i % 8)
			expectDecodeError(t, c, api.ErrForm)
		}
	}
	for _, c := range []struct {
		id      int
		packets []api.Packet
	}{{24, packetsOf(57, 57)}, {38, packetsOf(57)}, {136, nil}, {3, packetsOf(57)}, {129, packetsOf(11)}, {155, packetsOf(0, 0)}} {
		digits := digitsOf(t, api.Message{ID: c.id, P: c.packets, V: nil})
		b := sealed(t, c.id, digits)
		if (18+len(digits))%8 == 0 {
			t.Fatalf("%d: no bit remains", c.id)
		}
		expectDecodeError(t, b, api.ErrPacket)
		b[len(b)-1] |= 1
		expectDecodeError(t, b, api.ErrForm)
	}
}

// A message that ends with its last byte.
func TestDecodeWithoutBitsBehindThePackets(t *testing.T) {
	seen := map[bool]bool{}
	for _, m := range samples(t) {
		digits := digitsOf(t, m)
		if (18+len(digits))%8 == 0 {
			b := sealed(t, m.ID, digits)
			expectDecode(t, b, m)
			seen[b[len(b)-1] != 0] = true
		}
	}
	if !seen[true] {
		t.Error("no message ends with its last byte and a 1 in it")
	}
}

// A filled byte is a packet, or none.
func TestDecodeOfAByteOfZeros(t *testing.T) {
	for _, m := range samples(t) {
		b := sealed(t, m.ID, digitsOf(t, m))
		c := packed(t, digitsOfBytes(b)[:8]+binary(len(b)+1, 10)+digitsOfBytes(b)[18:]+"00000000")
		expectDecodeError(t, c, api.ErrShort)
	}
}

// Bytes of which some were changed, and bytes without any shape.
func TestDecodeOfNoise(t *testing.T) {
	d := dice(5)
	all := samples(t)
	for range 4000 {
		m := all[d.below(len(all))]
		b := sealed(t, m.ID, digitsOf(t, m))
		for range 1 + d.below(3) {
			b[d.below(len(b))] ^= byte(1 + d.below(255))
		}
		expectDecoded(t, b)
	}
	list := rows()
	for range 4000 {
		b := make([]byte, 3+d.below(40))
		for i := range b {
			b[i] = byte(d.below(256))
		}
		expectDecoded(t, b)
		b[0], b[1], b[2] = byte(list[d.below(len(list))].id), byte(len(b)>>2), byte(len(b)<<6)|b[2]&63
		expectDecoded(t, b)
	}
}

// P6.4

func TestEncodingAndDecoding(t *testing.T) {
	for _, m := range samples(t) {
		b, err := Encode(m)
		if err != api.OK {
			t.Fatalf("%v: %d", m, err)
		}
		expectDecode(t, b, m)
		n, _ := Decode(b)
		expectEncode(t, n, b)
	}
}

func TestEncodingOfWhatWasDecoded(t *testing.T) {
	d := dice(6)
	all := samples(t)
	count := 0
	for range 4000 {
		m := all[d.below(len(all))]
		b, _ := Encode(m)
		b[3+d.below(len(b)-3)] ^= 1 << d.below(8)
		if n, err := Decode(b); err == api.OK {
			count++
			expectEncode(t, n, b)
		}
	}
	if count < 100 {
		t.Errorf("only %d messages", count)
	}
}

func TestBytesRemovedOrAdded(t *testing.T) {
	for _, m := range samples(t) {
		b, _ := Encode(m)
		for n := range b {
			want := api.ErrForm
			if n < 3 {
				want = api.ErrShort
			}
			expectDecodeError(t, b[:n], want)
		}
		for n := 1; n < 1100; n += 1 + n/3 {
			for _, c := range []byte{0, 1, 57, 255} {
				expectDecodeError(t, slices.Concat(b, bytes.Repeat([]byte{c}, n)), api.ErrForm)
			}
		}
	}
}

// R3

func clone(m api.Message) api.Message {
	m.V = slices.Clone(m.V)
	m.P = slices.Clone(m.P)
	for i := range m.P {
		m.P[i].V = slices.Clone(m.P[i].V)
	}
	return m
}

func TestArgumentsAreNotModified(t *testing.T) {
	for _, m := range samples(t) {
		// What lies behind the slices stays as it is, too.
		spare := append(slices.Clone(m.V), -7, -7, -7, -7)
		m.V = spare[:len(m.V)]
		more := append(slices.Clone(m.P), packetOf(57), packetOf(57))
		m.P = more[:len(m.P)]
		before, spareBefore, moreBefore := clone(m), slices.Clone(spare), clone(api.Message{P: more})
		b, _ := Encode(m)
		if !reflect.DeepEqual(m, before) || !slices.Equal(spare, spareBefore) || !reflect.DeepEqual(more, moreBefore.P) {
			t.Errorf("Encode modified %v to %v", before, m)
		}
		own := bytes.Clone(b)
		Decode(b)
		if !bytes.Equal(b, own) {
			t.Errorf("Decode modified %x to %x", own, b)
		}
	}
}

func TestResultsShareNothing(t *testing.T) {
	for _, m := range samples(t) {
		b, _ := Encode(m)
		own := bytes.Clone(b)
		n, _ := Decode(b)
		again, _ := Decode(b)
		clear(b)
		if !same(n, m) {
			t.Fatalf("%v follows its bytes", n)
		}
		for i := range n.V {
			n.V[i]++
		}
		_ = append(n.V[:0:len(n.V)], -1)
		for i := range n.P {
			clear(n.P[i].V)
			n.P[i].ID++
		}
		if !same(again, m) {
			t.Fatalf("%v follows another result", again)
		}
		expectEncode(t, m, own)
	}
}

// R5

func TestResultsDependOnArgumentsOnly(t *testing.T) {
	b := unhex(t, "10 02 80 00 00 40 20 00 09 A6")
	for range 3 {
		expectDecode(t, b, api.Message{ID: 16, T: 256, Ack: 1, Of: 77, V: []int{3}})
		expectDecodeError(t, b[:9], api.ErrForm)
		expectEncodeError(t, api.Message{ID: 16}, api.ErrValue)
		expectEncode(t, api.Message{ID: 16, T: 256, Ack: 1, Of: 77, V: []int{3}}, b)
	}
}
