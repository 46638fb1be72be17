package mac

import (
	"bytes"
	"encoding/binary"
	"math"
	"math/rand/v2"
	"slices"
	"testing"

	"lineside/api"
	"lineside/cipher"
)

// The example of chapter 7: a key, a block and what it is encrypted to.
var (
	exampleKey   = api.Key{0x1b1a1918, 0x13121110, 0x0b0a0908, 0x03020100}
	examplePlain = uint64(0x3b7265747475432d)
	exampleCoded = uint64(0x8c6fa548454e028b)
)

// The code written anew, as the chapter defines it. It knows nothing of package
// mac.

// blockList returns the blocks of b, which it pads in a copy.
func blockList(b []byte) []uint64 {
	padded := append([]byte{}, b...)
	for len(padded)%8 > 0 {
		padded = append(padded, 0)
	}
	out := []uint64{uint64(len(b))}
	for ; len(padded) > 0; padded = padded[8:] {
		out = append(out, binary.BigEndian.Uint64(padded))
	}
	return out
}

// chain returns the code whose blocks are list.
func chain(k api.Key, list []uint64) uint64 {
	if len(list) == 0 {
		return 0
	}
	last := len(list) - 1
	return cipher.Encrypt(k, chain(k, list[:last])^list[last])
}

// derived returns the key of P8.2.
func derived(k api.Key, x, y uint32) api.Key {
	var v, out [8]byte
	binary.BigEndian.PutUint32(v[:], x)
	binary.BigEndian.PutUint32(v[4:], y)
	w := cipher.Encrypt(k, binary.BigEndian.Uint64(v[:]))
	binary.BigEndian.PutUint64(v[:], w)
	binary.BigEndian.PutUint64(out[:], cipher.Encrypt(k, math.MaxUint64-w))
	return api.Key{
		binary.BigEndian.Uint32(v[:]), binary.BigEndian.Uint32(v[4:]),
		binary.BigEndian.Uint32(out[:]), binary.BigEndian.Uint32(out[4:]),
	}
}

func source() *rand.Rand { return rand.New(rand.NewPCG(8, 64)) }

func drawnBytes(r *rand.Rand, count int) []byte {
	out := make([]byte, count)
	for i := range out {
		out[i] = byte(r.Uint32())
	}
	return out
}

// keys returns keys of words 0 and of all ones, the example's, and drawn ones.
func keys() []api.Key {
	r := source()
	const ones = math.MaxUint32
	out := []api.Key{{}, {ones, ones, ones, ones}, {1, 2, 3, 4}, exampleKey}
	for range 6 {
		out = append(out, api.Key{r.Uint32(), r.Uint32(), r.Uint32(), r.Uint32()})
	}
	return out
}

// words returns 0, all ones, words of a single bit, and drawn ones.
func words() []uint32 {
	r := source()
	out := []uint32{0, math.MaxUint32, math.MaxUint32 - 1, 1<<31 - 1, 1<<31 + 1}
	for i := range 32 {
		out = append(out, 1<<i)
	}
	for range 20 {
		out = append(out, r.Uint32())
	}
	return out
}

func expectMac(t *testing.T, k api.Key, b []byte) {
	t.Helper()
	if have, want := Mac(k, b), chain(k, blockList(b)); have != want {
		t.Errorf("Mac(%08x, %x): %016x, want %016x", k, b, have, want)
	}
}

func expectDerive(t *testing.T, k api.Key, x, y uint32) {
	t.Helper()
	if have, want := Derive(k, x, y), derived(k, x, y); have != want {
		t.Errorf("Derive(%08x, %08x, %08x): %08x, want %08x", k, x, y, have, want)
	}
}

// expectDifferent checks that a and b have different codes.
func expectDifferent(t *testing.T, k api.Key, a, b []byte) {
	t.Helper()
	if Mac(k, a) == Mac(k, b) {
		t.Errorf("Mac(%08x, %x) and that of %x are the same", k, a, b)
	}
}

// P8.1

func TestTheExamples(t *testing.T) {
	for _, k := range keys() {
		start := cipher.Encrypt(k, 0)
		if have := Mac(k, nil); have != start {
			t.Errorf("%08x: nil has the code %016x, want %016x", k, have, start)
		}
		if have := Mac(k, []byte{}); have != start {
			t.Errorf("%08x: no byte has the code %016x, want %016x", k, have, start)
		}
		want := cipher.Encrypt(k, cipher.Encrypt(k, 1)^0x0700000000000000)
		if have := Mac(k, []byte{7}); have != want {
			t.Errorf("%08x: 07 has the code %016x, want %016x", k, have, want)
		}
	}
}

// The states of these were worked out by hand.
func TestWrittenOutBlocks(t *testing.T) {
	for _, k := range keys() {
		e := func(b uint64) uint64 { return cipher.Encrypt(k, b) }
		for _, c := range []struct {
			b    []byte
			want uint64
		}{
			{[]byte{0}, e(e(1))},
			{[]byte{0, 0, 0, 0, 0, 0, 0, 0}, e(e(8))},
			{[]byte{1, 2}, e(e(2) ^ 0x0102000000000000)},
			{[]byte{1, 2, 3, 4, 5, 6, 7}, e(e(7) ^ 0x0102030405060700)},
			{[]byte{1, 2, 3, 4, 5, 6, 7, 8}, e(e(8) ^ 0x0102030405060708)},
			{[]byte{1, 2, 3, 4, 5, 6, 7, 8, 9}, e(e(e(9)^0x0102030405060708) ^ 0x0900000000000000)},
			{[]byte{255, 254, 253, 252, 251, 250, 249, 248, 247, 246, 245, 244, 243, 242, 241, 240},
				e(e(e(16)^0xfffefdfcfbfaf9f8) ^ 0xf7f6f5f4f3f2f1f0)},
		} {
			if have := Mac(k, c.b); have != c.want {
				t.Errorf("Mac(%08x, %x): %016x, want %016x", k, c.b, have, c.want)
			}
		}
	}
}

// The state before the last block, xor that block, is the example's plain block.
func TestTheCiphersExampleIsACode(t *testing.T) {
	b := binary.BigEndian.AppendUint64(nil, examplePlain^cipher.Encrypt(exampleKey, 8))
	if have := Mac(exampleKey, b); have != exampleCoded {
		t.Errorf("%016x, want %016x", have, exampleCoded)
	}
}

func TestEachLength(t *testing.T) {
	r := source()
	for length := range 81 {
		zeros, ones := make([]byte, length), bytes.Repeat([]byte{255}, length)
		for _, k := range keys() {
			expectMac(t, k, zeros)
			expectMac(t, k, ones)
			for range 10 {
				expectMac(t, k, drawnBytes(r, length))
			}
		}
	}
}

// The lengths of these need one byte, two and three.
func TestGreatLengths(t *testing.T) {
	r := source()
	for _, length := range []int{127, 128, 255, 256, 257, 511, 512, api.MaxBytes, 1024, 65535, 65536, 65537} {
		expectMac(t, exampleKey, drawnBytes(r, length))
		expectMac(t, exampleKey, make([]byte, length))
	}
}

func TestEachByteStandsAtItsPlace(t *testing.T) {
	for length := 1; length <= 24; length++ {
		for at := range length {
			for _, value := range []byte{1, 128, 255} {
				b := make([]byte, length)
				b[at] = value
				expectMac(t, exampleKey, b)
			}
		}
	}
}

func TestBytesBehindTheSliceDoNotCount(t *testing.T) {
	all := bytes.Repeat([]byte{0xa5}, 64)
	for from := range 20 {
		for to := from; to <= 40; to++ {
			part := all[from:to]
			own := bytes.Clone(part)
			if have, want := Mac(exampleKey, part), Mac(exampleKey, own); have != want {
				t.Errorf("%d to %d: %016x, want %016x", from, to, have, want)
			}
			expectMac(t, exampleKey, part)
		}
	}
}

func TestTheCodeDependsOnEachBitOfTheKey(t *testing.T) {
	for _, b := range [][]byte{nil, {7}, []byte("several blocks of bytes")} {
		seen := map[uint64]bool{Mac(exampleKey, b): true}
		for i := range 128 {
			k := exampleKey
			k[i/32] ^= 1 << (i % 32)
			expectMac(t, k, b)
			seen[Mac(k, b)] = true
		}
		if len(seen) != 129 {
			t.Errorf("%x: %d different codes, want 129", b, len(seen))
		}
	}
}

func TestBlocksCanBeLeftEarly(t *testing.T) {
	b := drawnBytes(source(), 37)
	all := blockList(b)
	if have := slices.Collect(blocks(b)); !slices.Equal(have, all) {
		t.Errorf("%x, want %x", have, all)
	}
	for count := range all {
		var have []uint64
		for block := range blocks(b) {
			have = append(have, block)
			if len(have) > count {
				break
			}
		}
		if !slices.Equal(have, all[:count+1]) {
			t.Errorf("%x, want %x", have, all[:count+1])
		}
	}
}

// P8.2

func TestDeriveOfTheCiphersExample(t *testing.T) {
	have := Derive(exampleKey, 0x3b726574, 0x7475432d)
	rest := cipher.Encrypt(exampleKey, 0x73905ab7bab1fd74)
	want := api.Key{0x8c6fa548, 0x454e028b, uint32(rest >> 32), uint32(rest)}
	if have != want {
		t.Errorf("%08x, want %08x", have, want)
	}
}

// The complement of the first result is here the example's plain block.
func TestTheCiphersExampleAsTheLastWords(t *testing.T) {
	v := cipher.Decrypt(exampleKey, ^examplePlain)
	have := Derive(exampleKey, uint32(v>>32), uint32(v))
	want := api.Key{0xc48d9a8b, 0x8b8abcd2, 0x8c6fa548, 0x454e028b}
	if have != want {
		t.Errorf("%08x, want %08x", have, want)
	}
}

func TestDeriveOfRegularAndDrawnWords(t *testing.T) {
	for _, k := range keys() {
		for _, x := range words() {
			for _, y := range words() {
				expectDerive(t, k, x, y)
			}
		}
	}
}

func TestDeriveOfDrawnKeys(t *testing.T) {
	r := source()
	for range 20000 {
		k := api.Key{r.Uint32(), r.Uint32(), r.Uint32(), r.Uint32()}
		expectDerive(t, k, r.Uint32(), r.Uint32())
	}
}

func TestTheDerivedKeyDependsOnEachBitOfTheKey(t *testing.T) {
	seen := map[api.Key]bool{Derive(exampleKey, 5, 6): true}
	for i := range 128 {
		k := exampleKey
		k[i/32] ^= 1 << (i % 32)
		expectDerive(t, k, 5, 6)
		seen[Derive(k, 5, 6)] = true
	}
	if len(seen) != 129 {
		t.Errorf("%d different keys, want 129", len(seen))
	}
}

// P8.3

func TestOneDifferentByte(t *testing.T) {
	for _, length := range []int{1, 7, 8, 9, 16, 33, 40} {
		b := drawnBytes(source(), length)
		for at := range b {
			for change := 1; change < 256; change++ {
				other := bytes.Clone(b)
				other[at] ^= byte(change)
				expectDifferent(t, exampleKey, b, other)
			}
		}
	}
}

func TestSeveralDifferentBytesOfOneBlock(t *testing.T) {
	r := source()
	for _, k := range keys() {
		for length := 1; length <= 40; length++ {
			b := drawnBytes(r, length)
			for from := 0; from < length; from += 8 {
				to := min(from+8, length)
				for range 10 {
					other := bytes.Clone(b)
					copy(other[from:to], drawnBytes(r, to-from))
					if !bytes.Equal(b, other) {
						expectDifferent(t, k, b, other)
					}
				}
				inverted := bytes.Clone(b)
				for i := from; i < to; i++ {
					inverted[i] ^= 255
				}
				expectDifferent(t, k, b, inverted)
			}
		}
	}
}

func TestSwappedBytesOfOneBlock(t *testing.T) {
	b := []byte("abcdefghijklmnopqrstuvwx")
	for from := 0; from < len(b); from += 8 {
		for i := from; i < from+8; i++ {
			for j := i + 1; j < from+8; j++ {
				other := bytes.Clone(b)
				other[i], other[j] = b[j], b[i]
				expectDifferent(t, exampleKey, b, other)
			}
		}
	}
}

// These have the same bytes in all of their blocks but the one of the length.
func TestZeroBytesBehindASlice(t *testing.T) {
	r := source()
	for _, k := range keys() {
		for length := range 41 {
			b := drawnBytes(r, length)
			seen := map[uint64]bool{}
			for count := range 20 {
				longer := append(bytes.Clone(b), make([]byte, count)...)
				seen[Mac(k, longer)] = true
			}
			if len(seen) != 20 {
				t.Errorf("%08x, %x: %d different codes, want 20", k, b, len(seen))
			}
		}
	}
}

// No slice of up to two bytes, and none of up to twelve bytes 0 and 1, has the code
// of another one.
func TestManyCodesAreDifferent(t *testing.T) {
	seen, count := map[uint64]bool{}, 0
	add := func(b []byte) {
		seen[Mac(exampleKey, b)] = true
		count++
	}
	add(nil)
	for i := range 1 << 8 {
		add([]byte{byte(i)})
	}
	for i := range 1 << 16 {
		add([]byte{byte(i >> 8), byte(i)})
	}
	for length := 3; length <= 12; length++ {
		for choice := range 1 << length {
			b := make([]byte, length)
			for i := range b {
				b[i] = byte(choice >> i & 1)
			}
			add(b)
		}
	}
	if len(seen) != count {
		t.Errorf("%d different codes of %d slices", len(seen), count)
	}
}

func TestDifferentPairsHaveDifferentKeys(t *testing.T) {
	type pair struct{ x, y uint32 }
	pairs := map[pair]bool{}
	for _, x := range words() {
		for _, y := range words() {
			pairs[pair{x, y}] = true
		}
	}
	for x := range uint32(100) {
		for y := range uint32(100) {
			pairs[pair{x, y}] = true
			pairs[pair{x << 25, ^y}] = true
		}
	}
	for _, k := range keys() {
		seen := map[api.Key]bool{}
		front, back := map[[2]uint32]bool{}, map[[2]uint32]bool{}
		for p := range pairs {
			d := Derive(k, p.x, p.y)
			seen[d] = true
			front[[2]uint32{d[0], d[1]}] = true
			back[[2]uint32{d[2], d[3]}] = true
		}
		if len(seen) != len(pairs) || len(front) != len(pairs) || len(back) != len(pairs) {
			t.Errorf("%08x: %d pairs have %d keys, %d and %d halves", k, len(pairs), len(seen), len(front), len(back))
		}
	}
}

// R3 and R5

func TestArgumentsAreNotModified(t *testing.T) {
	r := source()
	for length := range 41 {
		all := drawnBytes(r, length+20)
		before := bytes.Clone(all)
		k := exampleKey
		Mac(k, all[:length])
		Derive(k, 5, 6)
		if !bytes.Equal(all, before) {
			t.Errorf("%x, were %x", all, before)
		}
		if k != (api.Key{0x1b1a1918, 0x13121110, 0x0b0a0908, 0x03020100}) {
			t.Errorf("%08x", k)
		}
	}
}

func TestResultsAreTheCallers(t *testing.T) {
	k := exampleKey
	first, second := Derive(k, 5, 6), Derive(k, 5, 6)
	for i := range first {
		first[i] = 99
		k[i] = 98
	}
	if second != derived(exampleKey, 5, 6) {
		t.Errorf("%08x", second)
	}
	expectDerive(t, exampleKey, 5, 6)
}

func TestNothingIsKeptBetweenCalls(t *testing.T) {
	b := []byte("a text of more than two blocks")
	for _, k := range keys() {
		for _, other := range [][]byte{nil, {7}, make([]byte, 100)} {
			Mac(k, other)
			Derive(k, 1, 2)
			expectMac(t, exampleKey, b)
			expectDerive(t, exampleKey, 5, 6)
		}
	}
	b[0] ^= 1
	expectMac(t, exampleKey, b)
}
