package pdu

import (
	"bytes"
	"encoding/binary"
	"encoding/hex"
	"math"
	"math/rand/v2"
	"reflect"
	"slices"
	"strings"
	"testing"

	"lineside/api"
	"lineside/cipher"
	"lineside/mac"
)

// The chapter's table written anew, with an encoder and a decoder of its own.

// row is a kind: its directions, the fields behind Train, the sizes of its body.
type row struct {
	kind        int
	dirs        []int
	fields      string // of A, B, Length, Text of the body, Mac
	least, most int
}

var rows = []row{
	{api.AU1, []int{0}, "A", 0, 0},
	{api.AU2, []int{1}, "ABM", 0, 0},
	{api.AU3, []int{0}, "ABM", 0, 0},
	{api.DT, []int{0, 1}, "BLTM", 1, 1023},
	{api.DI, []int{0, 1}, "BTM", 1, 1},
}

func find(kind int) (row, bool) {
	for _, r := range rows {
		if r.kind == kind {
			return r, true
		}
	}
	return row{}, false
}

// has reports whether a kind has a field.
func (r row) has(field string) bool { return strings.Contains(r.fields, field) }

// valid reports whether p is as the table requires.
func valid(p api.PDU) bool {
	r, known := find(p.Kind)
	return known && slices.Contains(r.dirs, p.Dir) &&
		0 <= p.Train && p.Train <= 16777215 &&
		(r.has("A") || p.A == 0) && (r.has("B") || p.B == 0) && (r.has("M") || p.Mac == 0) &&
		r.least <= len(p.Body) && len(p.Body) <= r.most
}

// written returns the encoding of a valid PDU, without the bytes of Mac if it is
// for its text.
func written(p api.PDU, forText bool) []byte {
	out := binary.BigEndian.AppendUint32(nil, uint32(p.Train))
	out[0] = []byte{2, 0, 0, 5, 6, 0, 0, 0, 10, 11, 12, 13}[2*(p.Kind-1)+p.Dir]
	r, _ := find(p.Kind)
	for _, field := range r.fields {
		switch field {
		case 'A':
			out = binary.BigEndian.AppendUint32(out, p.A)
		case 'B':
			out = binary.BigEndian.AppendUint32(out, p.B)
		case 'L':
			out = binary.BigEndian.AppendUint16(out, uint16(len(p.Body)))
		case 'T':
			out = append(out, p.Body...)
		case 'M':
			if !forText {
				out = binary.BigEndian.AppendUint64(out, p.Mac)
			}
		}
	}
	return out
}

// decoded returns the valid PDU whose encoding is b, or false if there is none.
func decoded(b []byte) (api.PDU, bool) {
	if len(b) < 8 {
		return api.PDU{}, false
	}
	number := binary.BigEndian.Uint32(b)
	p := api.PDU{Kind: int(number >> 25), Dir: int(number >> 24 & 1), Train: int(number & 0xffffff)}
	second := binary.BigEndian.Uint32(b[4:])
	behind := b[8:]
	switch {
	case p.Kind == 1 && p.Dir == 0 && len(b) == 8:
		p.A = second
		return p, true
	case (p.Kind == 2 && p.Dir == 1 || p.Kind == 3 && p.Dir == 0) && len(b) == 20:
		p.A, p.B, p.Mac = second, binary.BigEndian.Uint32(behind), binary.BigEndian.Uint64(behind[4:])
		return p, true
	case p.Kind == 5 && len(b) >= 19 && len(b) <= 18+1023 && int(binary.BigEndian.Uint16(behind)) == len(b)-18:
		p.B, p.Body, p.Mac = second, behind[2:len(behind)-8], binary.BigEndian.Uint64(behind[len(behind)-8:])
		return p, true
	case p.Kind == 6 && len(b) == 17:
		p.B, p.Body, p.Mac = second, behind[:1], binary.BigEndian.Uint64(behind[1:])
		return p, true
	}
	return api.PDU{}, false
}

// What the tests are about.

var exampleKey = api.Key{1, 2, 3, 4}

func source() *rand.Rand { return rand.New(rand.NewPCG(9, 5)) }

func drawnBytes(r *rand.Rand, count int) []byte {
	out := make([]byte, count)
	for i := range out {
		out[i] = byte(r.Uint32())
	}
	return out
}

func drawnKey(r *rand.Rand) api.Key {
	return api.Key{r.Uint32(), r.Uint32(), r.Uint32(), r.Uint32()}
}

// sample returns a valid PDU of a row with drawn fields.
func (r row) sample(dice *rand.Rand, dir, size int) api.PDU {
	p := api.PDU{Kind: r.kind, Dir: dir, Train: int(dice.Uint32() >> 8)}
	if r.has("A") {
		p.A = dice.Uint32()
	}
	if r.has("B") {
		p.B = dice.Uint32()
	}
	if r.has("M") {
		p.Mac = dice.Uint64()
	}
	if size > 0 {
		p.Body = drawnBytes(dice, size)
	}
	return p
}

// samples returns valid PDUs of every kind and direction, with bodies of many
// sizes.
func samples() []api.PDU {
	dice := source()
	var out []api.PDU
	for _, r := range rows {
		for _, dir := range r.dirs {
			for _, size := range []int{0, 1, 2, 3, 7, 8, 9, 10, 11, 100, 255, 256, 257, 511, 512, 1022, 1023} {
				if r.least <= size && size <= r.most {
					out = append(out, r.sample(dice, dir, size))
				}
			}
			zero := api.PDU{Kind: r.kind, Dir: dir, Body: make([]byte, r.least)}
			full := api.PDU{Kind: r.kind, Dir: dir, Train: 1<<24 - 1, Body: bytes.Repeat([]byte{255}, r.most)}
			if r.has("A") {
				full.A = math.MaxUint32
			}
			if r.has("B") {
				full.B = math.MaxUint32
			}
			if r.has("M") {
				full.Mac = math.MaxUint64
			}
			out = append(out, zero, full)
		}
	}
	return out
}

// invalid returns PDUs that are not valid, each for one reason.
func invalid() []api.PDU {
	body := func(size int) []byte { return make([]byte, size) }
	return []api.PDU{
		{},
		{Train: 5, A: 1},
		{Kind: 4}, {Kind: 4, Dir: 1, B: 1, Body: body(1)}, {Kind: 7, B: 1, Body: body(1)},
		{Kind: -1}, {Kind: -5, B: 1, Body: body(1)},
		{Kind: 1 + 256, A: 1}, {Kind: 1 + 128, A: 1}, {Kind: 5 + 128, Body: body(1)},
		{Kind: math.MaxInt}, {Kind: math.MinInt}, {Kind: math.MinInt + 1, A: 1},
		{Kind: api.AU1, Dir: 1, A: 1}, {Kind: api.AU1, Dir: -1}, {Kind: api.AU1, Dir: 2},
		{Kind: api.AU1, B: 1}, {Kind: api.AU1, Mac: 1}, {Kind: api.AU1, Mac: 1 << 63}, {Kind: api.AU1, Body: body(1)},
		{Kind: api.AU1, Train: -1}, {Kind: api.AU1, Train: 1 << 24},
		{Kind: api.AU2, Dir: 0}, {Kind: api.AU2, Dir: 2}, {Kind: api.AU2, Dir: -1}, {Kind: api.AU2, Dir: 1, Body: body(1)},
		{Kind: api.AU2, Dir: 1, Train: -1}, {Kind: api.AU2, Dir: 1, Train: 1 << 24},
		{Kind: api.AU3, Dir: 1}, {Kind: api.AU3, Dir: 2}, {Kind: api.AU3, Dir: -1}, {Kind: api.AU3, Body: body(1)},
		{Kind: api.AU3, Train: -1}, {Kind: api.AU3, Train: 1 << 24},
		{Kind: api.DT}, {Kind: api.DT, Dir: 1, Body: []byte{}}, {Kind: api.DT, Body: body(1024)}, {Kind: api.DT, Body: body(70000)},
		{Kind: api.DT, Dir: 2, Body: body(1)}, {Kind: api.DT, Dir: -1, Body: body(1)}, {Kind: api.DT, A: 1, Body: body(1)},
		{Kind: api.DT, Dir: math.MinInt, Body: body(1)}, {Kind: api.DT, Dir: 256, Body: body(1)},
		{Kind: api.DT, Train: -1, Body: body(1)}, {Kind: api.DT, Train: 1 << 24, Body: body(1)},
		{Kind: api.DT, Train: math.MinInt, Body: body(1)}, {Kind: api.DT, Train: math.MaxInt, Body: body(1)},
		{Kind: api.DI}, {Kind: api.DI, Dir: 1}, {Kind: api.DI, Body: body(2)}, {Kind: api.DI, Body: body(257)},
		{Kind: api.DI, Dir: 2, Body: body(1)}, {Kind: api.DI, Dir: -1, Body: body(1)}, {Kind: api.DI, A: 1, Body: body(1)},
		{Kind: api.DI, Train: -1, Body: body(1)}, {Kind: api.DI, Train: 1 << 24, Body: body(1)},
		{Kind: api.DI, Train: 1<<32 + 5, Body: body(1)},
	}
}

func same(p, q api.PDU) bool {
	equal := bytes.Equal(p.Body, q.Body)
	p.Body, q.Body = nil, nil
	return equal && reflect.DeepEqual(p, q)
}

func unhex(t *testing.T, s string) []byte {
	t.Helper()
	b, err := hex.DecodeString(strings.ReplaceAll(s, " ", ""))
	if err != nil {
		t.Fatal(err)
	}
	return b
}

func expectEncoding(t *testing.T, p api.PDU, text, all []byte) {
	t.Helper()
	if !May(p) {
		t.Errorf("%v is not valid", p)
	}
	if have := Text(p); !bytes.Equal(have, text) {
		t.Errorf("text of %v: %x, want %x", p, have, text)
	}
	if have, err := Encode(p); err != api.OK || !bytes.Equal(have, all) {
		t.Errorf("encoding of %v: %x, %d, want %x", p, have, err, all)
	}
	if have, err := Decode(all); err != api.OK || !same(have, p) {
		t.Errorf("%x is decoded as %v, %d, want %v", all, have, err, p)
	}
}

func expectInvalid(t *testing.T, p api.PDU) {
	t.Helper()
	if May(p) {
		t.Errorf("%v is valid", p)
	}
	if have := Text(p); len(have) != 0 {
		t.Errorf("%v has the text %x", p, have)
	}
	if have, err := Encode(p); err != api.ErrArg || len(have) != 0 {
		t.Errorf("%v: %x, %d, want the error %d", p, have, err, api.ErrArg)
	}
}

// expectDecoded checks Decode against the decoder above.
func expectDecoded(t *testing.T, b []byte) {
	t.Helper()
	want, good := decoded(b)
	wantErr := api.OK
	if !good {
		wantErr = api.ErrForm
	}
	have, err := Decode(b)
	if err != wantErr || !same(have, want) {
		t.Errorf("%x: %v, %d, want %v, %d", b, have, err, want, wantErr)
	}
	if !good && have.Body != nil {
		t.Errorf("%x: the body %v beside an error", b, have.Body)
	}
}

func expectForm(t *testing.T, b []byte) {
	t.Helper()
	if have, err := Decode(b); err != api.ErrForm || !reflect.DeepEqual(have, api.PDU{}) {
		t.Errorf("%x: %v, %d, want the error %d", b, have, err, api.ErrForm)
	}
}

// P9.1

func TestTheExamples(t *testing.T) {
	first := unhex(t, "02 00 00 05 00 00 00 01")
	expectEncoding(t, api.PDU{Kind: api.AU1, Train: 5, A: 1}, first, first)
	text := unhex(t, "0B 00 00 05 00 00 00 02 00 01 09")
	p := api.PDU{Kind: api.DT, Dir: 1, Train: 5, B: 2, Body: []byte{9}, Mac: 0x0102030405060708}
	expectEncoding(t, p, text, append(text, 1, 2, 3, 4, 5, 6, 7, 8))
}

// These were written out by hand from the table.
func TestWrittenOutEncodings(t *testing.T) {
	const code = 0xa1a2a3a4a5a6a7a8
	for _, c := range []struct {
		p    api.PDU
		text string
	}{
		{api.PDU{Kind: api.AU2, Dir: 1, Train: 0x123456, A: 0x11121314, B: 0x21222324, Mac: code}, "05 123456 11121314 21222324"},
		{api.PDU{Kind: api.AU3, Train: 0xfffffe, A: 0x81828384, B: 0xf1f2f3f4, Mac: code}, "06 fffffe 81828384 f1f2f3f4"},
		{api.PDU{Kind: api.DT, Train: 0x010000, B: 0x80000001, Body: []byte("abc"), Mac: code}, "0a 010000 80000001 0003 616263"},
		{api.PDU{Kind: api.DT, Dir: 1, Train: 0x000100, B: 0, Body: []byte{0}, Mac: code}, "0b 000100 00000000 0001 00"},
		{api.PDU{Kind: api.DT, B: 1, Body: bytes.Repeat([]byte{7}, 1023), Mac: code}, "0a 000000 00000001 03ff" + strings.Repeat("07", 1023)},
		{api.PDU{Kind: api.DT, B: 1, Body: bytes.Repeat([]byte{7}, 256), Mac: code}, "0a 000000 00000001 0100" + strings.Repeat("07", 256)},
		{api.PDU{Kind: api.DI, Train: 5, B: 0xc1c2c3c4, Body: []byte{4}, Mac: code}, "0c 000005 c1c2c3c4 04"},
		{api.PDU{Kind: api.DI, Dir: 1, Train: 1<<24 - 1, B: 0xffffffff, Body: []byte{255}, Mac: code}, "0d ffffff ffffffff ff"},
	} {
		text := unhex(t, c.text)
		all := unhex(t, c.text+"a1a2a3a4a5a6a7a8")
		expectEncoding(t, c.p, text, all)
		c.p.Mac = 0
		expectEncoding(t, c.p, text, unhex(t, c.text+"0000000000000000"))
	}
	expectEncoding(t, api.PDU{Kind: api.AU1}, unhex(t, "02 000000 00000000"), unhex(t, "02 000000 00000000"))
	expectEncoding(t, api.PDU{Kind: api.AU1, Train: 1<<24 - 1, A: math.MaxUint32},
		unhex(t, "02 ffffff ffffffff"), unhex(t, "02 ffffff ffffffff"))
}

func TestSamplesAgainstTheTable(t *testing.T) {
	for _, p := range samples() {
		expectEncoding(t, p, written(p, true), written(p, false))
	}
}

// A body of each size that a DT may have.
func TestEachSizeOfABody(t *testing.T) {
	dice := source()
	for size := range 1100 {
		p := api.PDU{Kind: api.DT, Dir: size % 2, Train: 5, B: 2, Body: drawnBytes(dice, size), Mac: 77}
		if size >= 1 && size <= 1023 {
			expectEncoding(t, p, written(p, true), written(p, false))
		} else {
			expectInvalid(t, p)
		}
	}
}

func TestBodiesThatAreEmpty(t *testing.T) {
	for _, body := range [][]byte{nil, {}, make([]byte, 0, 10)} {
		for _, p := range []api.PDU{{Kind: api.AU1, A: 3, Body: body}, {Kind: api.AU2, Dir: 1, Body: body}, {Kind: api.AU3, Body: body}} {
			expectEncoding(t, p, written(p, true), written(p, false))
		}
		expectInvalid(t, api.PDU{Kind: api.DT, Body: body})
		expectInvalid(t, api.PDU{Kind: api.DI, Body: body})
	}
}

func TestInvalidPDUs(t *testing.T) {
	for _, p := range invalid() {
		if valid(p) {
			t.Fatalf("%v is valid", p)
		}
		expectInvalid(t, p)
	}
}

// All kinds and directions, also those whose first byte is that of another, with
// each field zero or not.
func TestEachCombinationOfFields(t *testing.T) {
	bodies := [][]byte{nil, {1}, {1, 2}, make([]byte, 1023), make([]byte, 1024)}
	trains := []int{math.MinInt, -1 << 24, -1, 0, 5, 1<<24 - 1, 1 << 24, 1<<32 + 5, math.MaxInt}
	count := 0
	for kind := -7; kind <= 140; kind++ {
		for dir := -12; dir <= 13; dir++ {
			for choice := range 8 * len(bodies) * len(trains) {
				p := api.PDU{Kind: kind, Dir: dir}
				p.A = uint32(choice & 1)
				p.B = uint32(choice>>1&1) << 31
				p.Mac = uint64(choice>>2&1) << 32
				p.Body = bodies[choice>>3%len(bodies)]
				p.Train = trains[choice>>3/len(bodies)]
				if have, want := May(p), valid(p); have != want {
					t.Errorf("%v: %v, want %v", p, have, want)
				}
				if valid(p) {
					count++
					expectEncoding(t, p, written(p, true), written(p, false))
				} else if choice%7 == 0 {
					expectInvalid(t, p)
				}
			}
		}
	}
	if count < 100 {
		t.Errorf("only %d were valid", count)
	}
}

func TestBytesCutOffOrAdded(t *testing.T) {
	for _, p := range samples() {
		all := written(p, false)
		for size := range all {
			expectForm(t, all[:size])
			expectForm(t, all[len(all)-size:])
		}
		for _, more := range []int{1, 2, 8, 9, 12, 256, 1024} {
			expectForm(t, append(bytes.Clone(all), make([]byte, more)...))
			expectForm(t, append(make([]byte, more), all...))
		}
	}
	expectForm(t, nil)
	expectForm(t, []byte{})
}

// Each first byte before each number of bytes: only those of the table decode.
func TestEachFirstByteAndSize(t *testing.T) {
	dice := source()
	good := map[byte]bool{}
	for first := range 256 {
		for size := 1; size <= 48; size++ {
			for _, told := range []int{size - 18, size - 17, size - 19, 0, 1, 65535} {
				b := drawnBytes(dice, size)
				b[0] = byte(first)
				if size >= 10 {
					binary.BigEndian.PutUint16(b[8:], uint16(told))
				}
				expectDecoded(t, b)
				if _, err := Decode(b); err == api.OK {
					good[b[0]] = true
				}
			}
		}
	}
	for _, first := range []byte{2, 5, 6, 10, 11, 12, 13} {
		if !good[first] {
			t.Errorf("nothing with the first byte %d was decoded", first)
		}
	}
	if len(good) != 7 {
		t.Errorf("%d first bytes, want 7", len(good))
	}
}

// Lengths in a DT that do not tell how many bytes the body has.
func TestLengthsOfABody(t *testing.T) {
	for _, size := range []int{0, 1, 2, 8, 9, 255, 256, 257, 1022, 1023, 1024, 1025, 65535} {
		b := append([]byte{10, 0, 0, 5, 0, 0, 0, 2, 0, 0}, make([]byte, size+8)...)
		for _, told := range []int{0, 1, size - 1, size, size + 1, size + 7, size + 8, size + 9, size | 256, size ^ 1024, 1023, 1024, 65535} {
			if told < 0 || told > 65535 {
				continue
			}
			binary.BigEndian.PutUint16(b[8:], uint16(told))
			_, err := Decode(b)
			if good := told == size && 1 <= size && size <= 1023; (err == api.OK) != good || !good && err != api.ErrForm {
				t.Errorf("%d bytes, told as %d: %d", size, told, err)
			}
			expectDecoded(t, b)
		}
	}
}

func TestBytesWithoutAnyShape(t *testing.T) {
	dice := source()
	for range 20000 {
		expectDecoded(t, drawnBytes(dice, dice.IntN(40)))
	}
	for _, size := range []int{1041, 1042, 65536, 1 << 20} {
		for first := range byte(16) {
			b := make([]byte, size)
			b[0] = first
			expectDecoded(t, b)
			b = bytes.Repeat([]byte{255}, size)
			b[0] = first
			expectDecoded(t, b)
		}
	}
}

// P9.2

func TestSeal(t *testing.T) {
	dice := source()
	for _, p := range samples() {
		for _, k := range []api.Key{{}, exampleKey, drawnKey(dice)} {
			have, want := Seal(k, p), p
			if p.Kind != api.AU1 {
				want.Mac = mac.Mac(k, written(p, true))
			}
			if !same(have, want) {
				t.Errorf("%v sealed with %x: %v, want %v", p, k, have, want)
			}
			if again := Seal(k, have); !same(again, want) {
				t.Errorf("%v sealed again: %v", have, again)
			}
			if Right(k, have) != (p.Kind != api.AU1) {
				t.Errorf("%v: Right under the key %x is %v", have, k, Right(k, have))
			}
		}
	}
}

// The code of a text of two blocks, worked out by the cipher alone.
func TestSealByTheCipher(t *testing.T) {
	e := func(b uint64) uint64 { return cipher.Encrypt(exampleKey, b) }
	have := Seal(exampleKey, api.PDU{Kind: api.DT, Dir: 1, Train: 5, B: 2, Body: []byte{9}}).Mac
	if want := e(e(e(11)^0x0b00000500000002) ^ 0x0001090000000000); have != want {
		t.Errorf("%016x, want %016x", have, want)
	}
	have = Seal(exampleKey, api.PDU{Kind: api.AU2, Dir: 1, Train: 5, A: 7, B: 9, Mac: 3}).Mac
	if want := e(e(e(12)^0x0500000500000007) ^ 0x0000000900000000); have != want {
		t.Errorf("%016x, want %016x", have, want)
	}
}

func TestInvalidPDUsAreNotSealed(t *testing.T) {
	for _, p := range invalid() {
		for _, code := range []uint64{p.Mac, 1, mac.Mac(exampleKey, nil), math.MaxUint64} {
			p.Mac = code
			if have := Seal(exampleKey, p); !same(have, p) {
				t.Errorf("%v sealed: %v", p, have)
			}
			if Right(exampleKey, p) {
				t.Errorf("%v is Right", p)
			}
		}
	}
}

// One that would be sealed right if it were valid.
func TestInvalidPDUsAreNotRight(t *testing.T) {
	for _, change := range []func(p *api.PDU){
		func(p *api.PDU) { p.A = 1 },
		func(p *api.PDU) { p.Train += 1 << 24 },
		func(p *api.PDU) { p.Train -= 1 << 24 },
		func(p *api.PDU) { p.Dir += 2 },
		func(p *api.PDU) { p.Kind += 128 },
		func(p *api.PDU) { p.Kind, p.Dir = p.Kind-1, p.Dir+2 },
		func(p *api.PDU) { p.Kind, p.Dir = p.Kind+1, p.Dir-2 },
	} {
		for _, kind := range []int{api.DT, api.DI} {
			p := Seal(exampleKey, api.PDU{Kind: kind, Dir: 1, Train: 5, B: 2, Body: []byte{9}})
			if !Right(exampleKey, p) {
				t.Fatalf("%v is not Right", p)
			}
			change(&p)
			if Right(exampleKey, p) {
				t.Errorf("%v is Right", p)
			}
		}
	}
}

// An AU1 is never Right, not even if 0 is the code of its text. There is such a
// text for each key, but it begins like an AU1 for few of them.
func TestAnAU1IsNotRight(t *testing.T) {
	dice := source()
	for {
		k := drawnKey(dice)
		block := cipher.Decrypt(k, 0) ^ cipher.Encrypt(k, 8)
		if block>>56 != 2 {
			continue
		}
		p := api.PDU{Kind: api.AU1, Train: int(block >> 32 & 0xffffff), A: uint32(block)}
		if mac.Mac(k, Text(p)) != 0 {
			t.Fatalf("%v has the code %016x", p, mac.Mac(k, Text(p)))
		}
		if Right(k, p) {
			t.Errorf("%v is Right", p)
		}
		return
	}
}

func TestAnAU1IsNotSealed(t *testing.T) {
	for _, p := range []api.PDU{{Kind: api.AU1}, {Kind: api.AU1, Train: 5, A: 1}} {
		if have := Seal(exampleKey, p); !same(have, p) {
			t.Errorf("%v sealed: %v", p, have)
		}
		p.Mac = mac.Mac(exampleKey, written(p, true))
		if have := Seal(exampleKey, p); !same(have, p) || Right(exampleKey, p) {
			t.Errorf("%v sealed: %v", p, have)
		}
	}
}

func TestRightDependsOnEachBit(t *testing.T) {
	for _, p := range samples() {
		if p.Kind == api.AU1 {
			continue
		}
		p = Seal(exampleKey, p)
		for i := range 64 {
			q := p
			q.Mac ^= 1 << i
			if Right(exampleKey, q) {
				t.Errorf("%v is Right with bit %d of Mac changed", p, i)
			}
		}
		for i := range 128 {
			k := exampleKey
			k[i/32] ^= 1 << (i % 32)
			if Right(k, p) {
				t.Errorf("%v is Right with bit %d of the key changed", p, i)
			}
		}
		for i := range 32 {
			q, s := p, p
			q.B ^= 1 << i
			s.A ^= 1 << i
			if Right(exampleKey, q) || Right(exampleKey, s) {
				t.Errorf("%v is Right with bit %d of B or A changed", p, i)
			}
		}
	}
}

// P9.3

func TestDecodingWhatWasEncoded(t *testing.T) {
	dice := source()
	for range 300 {
		for _, r := range rows {
			p := r.sample(dice, r.dirs[dice.IntN(len(r.dirs))], r.least+dice.IntN(r.most-r.least+1))
			b, err := Encode(p)
			if q, err2 := Decode(b); err != api.OK || err2 != api.OK || !same(p, q) {
				t.Errorf("%v: %d; %v, %d", p, err, q, err2)
			}
		}
	}
}

func TestEncodingWhatWasDecoded(t *testing.T) {
	dice := source()
	count := 0
	for range 20000 {
		b := drawnBytes(dice, []int{8, 17, 19, 20, 20 + dice.IntN(20)}[dice.IntN(5)])
		b[0] = []byte{2, 5, 6, 10, 11, 12, 13}[dice.IntN(7)]
		if len(b) >= 18 && dice.IntN(2) == 0 {
			binary.BigEndian.PutUint16(b[8:], uint16(len(b)-18))
		}
		p, err := Decode(b)
		if err != api.OK {
			continue
		}
		count++
		if again, err := Encode(p); err != api.OK || !bytes.Equal(again, b) {
			t.Errorf("%x is decoded as %v and encoded as %x, %d", b, p, again, err)
		}
	}
	if count < 1000 {
		t.Errorf("only %d were decoded", count)
	}
}

// expectNotRight checks that b does not decode to a PDU that is Right, and
// returns whether it decodes.
func expectNotRight(t *testing.T, b []byte) bool {
	t.Helper()
	p, err := Decode(b)
	if err == api.OK && Right(exampleKey, p) {
		t.Errorf("%x: %v is Right", b, p)
	}
	return err == api.OK
}

func TestOneChangedByte(t *testing.T) {
	kinds := map[[2]byte]bool{} // first bytes that one was changed from and to
	for _, p := range samples() {
		b, _ := Encode(Seal(exampleKey, p))
		if p.Kind == api.AU1 {
			continue
		}
		changes := []int{1, 2, 3, 4, 7, 8, 14, 15, 128, 255}
		if len(b) < 40 {
			changes = changes[:0]
			for c := range 255 {
				changes = append(changes, c+1)
			}
		}
		for i := range b {
			for _, c := range changes {
				before := b[0]
				b[i] ^= byte(c)
				if expectNotRight(t, b) && i == 0 {
					kinds[[2]byte{before, b[0]}] = true
				}
				b[i] ^= byte(c)
			}
		}
		if q, err := Decode(b); err != api.OK || !Right(exampleKey, q) {
			t.Errorf("%x: %v, %d is not Right", b, q, err)
		}
	}
	if !kinds[[2]byte{10, 11}] || !kinds[[2]byte{13, 12}] || !kinds[[2]byte{5, 6}] {
		t.Errorf("too few changes of the first byte: %v", kinds)
	}
}

// A DT with a body of two bytes has as many bytes as an AU2 and an AU3, and their
// B may look like its length.
func TestAChangedFirstByteOfAnotherKind(t *testing.T) {
	for _, p := range []api.PDU{
		{Kind: api.DT, Train: 5, B: 2, Body: []byte{3, 4}}, {Kind: api.DT, Dir: 1, Train: 5, B: 2, Body: []byte{3, 4}},
		{Kind: api.AU2, Dir: 1, Train: 5, A: 2, B: 0x00020304}, {Kind: api.AU3, Train: 5, A: 2, B: 0x00020304},
	} {
		b, _ := Encode(Seal(exampleKey, p))
		own, count := b[0], 0
		for first := range 256 {
			b[0] = byte(first)
			if b[0] != own && expectNotRight(t, b) {
				count++
			}
		}
		if count != 3 {
			t.Errorf("%v is decoded with %d other first bytes, want 3", p, count)
		}
	}
}

// R3 and R5

func TestArgumentsAreNotModified(t *testing.T) {
	for _, p := range slices.Concat(samples(), invalid()) {
		spare := append(bytes.Clone(p.Body), 201, 202, 203, 204, 205, 206, 207, 208, 209, 210)
		p.Body = spare[:len(p.Body)]
		before := bytes.Clone(spare)
		May(p)
		Text(p)
		Right(exampleKey, p)
		Encode(p)
		Seal(exampleKey, p)
		if !bytes.Equal(spare, before) {
			t.Errorf("%v was modified: %v", before, spare)
		}
	}
	for _, p := range samples() {
		spare := append(written(p, false), 201, 202, 203)
		before := bytes.Clone(spare)
		q, _ := Decode(spare[:len(spare)-3])
		_ = append(q.Body, 1, 2, 3, 4)
		if !bytes.Equal(spare, before) {
			t.Errorf("%x was modified: %x", before, spare)
		}
	}
}

func TestResultsShareNothing(t *testing.T) {
	for _, p := range slices.Concat(samples(), invalid()) {
		own := bytes.Clone(p.Body)
		sealed := Seal(exampleKey, p)
		text, all := Text(p), []byte(nil)
		if b, err := Encode(p); err == api.OK {
			all = b
		}
		q, _ := Decode(all)
		again, _ := Decode(all)
		for _, b := range [][]byte{text, all, q.Body} {
			for i := range b {
				b[i] ^= 255
			}
		}
		if !bytes.Equal(p.Body, own) || !bytes.Equal(sealed.Body, own) || all != nil && !same(again, p) {
			t.Errorf("%v, sealed %v and decoded %v share bytes with results", p, sealed, again)
		}
		for i := range p.Body {
			p.Body[i] ^= 255
		}
		if !bytes.Equal(sealed.Body, own) {
			t.Errorf("%v follows its argument", sealed)
		}
	}
}

func TestNothingIsKeptBetweenCalls(t *testing.T) {
	p := api.PDU{Kind: api.DT, Train: 5, B: 2, Body: []byte{9}}
	want := mac.Mac(exampleKey, written(p, true))
	for _, other := range slices.Concat(samples(), invalid()) {
		Seal(api.Key{9}, other)
		Encode(other)
		Decode(other.Body)
		if have := Seal(exampleKey, p); have.Mac != want || !Right(exampleKey, have) {
			t.Fatalf("after %v: %v", other, have)
		}
	}
}
