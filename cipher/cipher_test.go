package cipher

import (
	"math"
	"math/rand/v2"
	"testing"

	"lineside/api"
)

// The chapter's example.
var (
	exampleKey   = api.Key{0x1b1a1918, 0x13121110, 0x0b0a0908, 0x03020100}
	examplePlain = uint64(0x3b7265747475432d)
	exampleCoded = uint64(0x8c6fa548454e028b)
)

// modulus is that of the chapter's additions.
const modulus = 1 << 32

// The cipher written anew, as the chapter defines it, on numbers of 64 bits. It
// knows nothing of package cipher.

func turnLeft(x uint64, n int) uint64 {
	return x<<n%modulus + x>>(32-n)
}

func turnRight(x uint64, n int) uint64 { return turnLeft(x, 32-n) }

// schedule returns the round keys of key; it keeps all of the words l.
func schedule(key api.Key) [27]uint32 {
	k := []uint64{uint64(key[3])}
	l := []uint64{uint64(key[2]), uint64(key[1]), uint64(key[0])}
	out := [27]uint32{key[3]}
	for i := 0; i < 26; i++ {
		l = append(l, (k[i]+turnRight(l[i], 8))%modulus^uint64(i))
		k = append(k, turnLeft(k[i], 3)^l[i+3])
		out[i+1] = uint32(k[i+1])
	}
	return out
}

// pair is the words x and y.
type pair struct{ x, y uint64 }

func pairOf(b uint64) pair { return pair{b / modulus, b % modulus} }

func (p pair) block() uint64 { return p.x*modulus + p.y }

// sum is the one that the next round with p takes modulo 2^32.
func (p pair) sum() uint64 { return turnRight(p.x, 8) + p.y }

func (p pair) forward(r uint32) pair {
	x := p.sum()%modulus ^ uint64(r)
	return pair{x, turnLeft(p.y, 3) ^ x}
}

func (p pair) back(r uint32) pair {
	y := turnRight(p.x^p.y, 3)
	return pair{turnLeft((p.x^uint64(r)+modulus-y)%modulus, 8), y}
}

// start returns the pair of which the first count rounds with key make p.
func (p pair) start(key api.Key, count int) pair {
	keys := schedule(key)
	for i := count - 1; i >= 0; i-- {
		p = p.back(keys[i])
	}
	return p
}

// end returns what all rounds with key but the first count make of p.
func (p pair) end(key api.Key, count int) pair {
	keys := schedule(key)
	for i := count; i < 27; i++ {
		p = p.forward(keys[i])
	}
	return p
}

func source() *rand.Rand { return rand.New(rand.NewPCG(64, 128)) }

func drawnKeys(count int) []api.Key {
	r := source()
	var out []api.Key
	for range count {
		out = append(out, api.Key{r.Uint32(), r.Uint32(), r.Uint32(), r.Uint32()})
	}
	return out
}

func drawnBlocks(count int) []uint64 {
	r := source()
	var out []uint64
	for range count {
		out = append(out, r.Uint64())
	}
	return out
}

// regularKeys returns keys with words 0 and words of all ones, in all ways, and
// with a single bit set, or not set, in each of the words.
func regularKeys() []api.Key {
	var out []api.Key
	for choice := range 16 {
		var k api.Key
		for i := range k {
			k[i] = uint32(choice>>i&1) * math.MaxUint32
		}
		out = append(out, k)
	}
	for i := range 128 {
		set := api.Key{}
		unset := api.Key{math.MaxUint32, math.MaxUint32, math.MaxUint32, math.MaxUint32}
		set[i/32] ^= 1 << (i % 32)
		unset[i/32] ^= 1 << (i % 32)
		out = append(out, set, unset)
	}
	return out
}

// regularBlocks returns the blocks 0 and of all ones, blocks with a single bit
// set, or not set, and those whose halves are 0, 1, 2^31 or all ones.
func regularBlocks() []uint64 {
	out := []uint64{0, math.MaxUint64, examplePlain, exampleCoded}
	for i := range 64 {
		out = append(out, 1<<i, math.MaxUint64^1<<i)
	}
	halves := []uint64{0, 1, 1 << 31, 1<<31 - 1, modulus - 1}
	for _, x := range halves {
		for _, y := range halves {
			out = append(out, pair{x, y}.block())
		}
	}
	return out
}

func expectRounds(t *testing.T, k api.Key, want [27]uint32) {
	t.Helper()
	if have := Rounds(k); have != want {
		t.Errorf("Rounds(%08x):\n%08x, want\n%08x", k, have, want)
	}
}

// expectCipher checks that k encrypts plain to coded, and decrypts it again.
func expectCipher(t *testing.T, k api.Key, plain, coded uint64) {
	t.Helper()
	if have := Encrypt(k, plain); have != coded {
		t.Errorf("Encrypt(%08x, %016x): %016x, want %016x", k, plain, have, coded)
	}
	if have := Decrypt(k, coded); have != plain {
		t.Errorf("Decrypt(%08x, %016x): %016x, want %016x", k, coded, have, plain)
	}
}

// P7.1

func TestRoundsOfTheExample(t *testing.T) {
	expectRounds(t, exampleKey, [27]uint32{
		0x03020100, 0x131d0309, 0xbbd80d53, 0x0d334df3, 0x7fa43565, 0x67e6ce55, 0xe98cb3d2,
		0xaac76cbd, 0x7f5951c8, 0x03fa82c2, 0x313533ad, 0xdff70882, 0x9e487c93, 0xa934b928,
		0xdd2edef5, 0x8be6388d, 0x1f706b89, 0x2b87aaf8, 0x12d76c17, 0x6eaccd6c, 0x6a1ab912,
		0x10bc6bca, 0x6057dd32, 0xd3c9b381, 0xb347813d, 0x8c113c35, 0xfe6b523a,
	})
}

// The first round keys of these were worked out by hand.
func TestFirstRoundKeys(t *testing.T) {
	const ones = math.MaxUint32
	for _, c := range []struct {
		k    api.Key
		want []uint32
	}{
		{api.Key{}, []uint32{0, 0, 1, 0xb, 0x50, 0x010002d4}},
		{api.Key{ones, ones, ones, ones}, []uint32{ones, 1, 9, 0x42, 0xff000252}},
		{api.Key{0, 0, 0, 1}, []uint32{1, 9, 0x40}},
		{api.Key{0, 0, 0x100, 0}, []uint32{0, 1, 8}},
		{api.Key{0, 0x100, 0, 0}, []uint32{0, 0, 0, 2}},
		{api.Key{0x100, 0, 0, 0}, []uint32{0, 0, 1, 8}},
	} {
		have := Rounds(c.k)
		for i, want := range c.want {
			if have[i] != want {
				t.Errorf("%08x: round key %d is %08x, want %08x", c.k, i, have[i], want)
			}
		}
	}
}

// The sums of these pass 2^32, or reach just below it.
func TestSumsOfRoundKeysAreModulo(t *testing.T) {
	const ones = math.MaxUint32
	for _, c := range []struct {
		k    api.Key
		at   int
		want uint32
	}{
		{api.Key{0, 0, ones, 1}, 1, 8},
		{api.Key{0, 0, ones, 0}, 1, ones},
		{api.Key{0, 0, ones, ones}, 1, 1},
		{api.Key{0, 0, 0x80, 1 << 31}, 1, 4},
		{api.Key{0, 0, 0x80, 1<<31 - 1}, 1, 4},
		{api.Key{0, 0, 0x100, ones}, 1, ones},
		{api.Key{0, 0, 0x100, ones - 1}, 1, 8},
		{api.Key{0, 0xfffff7ff, 0, 1}, 2, 0x49},
		{api.Key{0, 0xfffff6ff, 0, 1}, 2, 0xffffffb6},
	} {
		if have := Rounds(c.k)[c.at]; have != c.want {
			t.Errorf("%08x: round key %d is %08x, want %08x", c.k, c.at, have, c.want)
		}
	}
}

func TestRoundsOfRegularKeys(t *testing.T) {
	for _, k := range regularKeys() {
		expectRounds(t, k, schedule(k))
	}
}

func TestRoundsOfDrawnKeys(t *testing.T) {
	for _, k := range drawnKeys(20000) {
		expectRounds(t, k, schedule(k))
	}
}

func TestEachBitOfTheKeyChangesTheRoundKeys(t *testing.T) {
	for _, k := range drawnKeys(20) {
		seen := map[[27]uint32]bool{Rounds(k): true}
		for i := range 128 {
			other := k
			other[i/32] ^= 1 << (i % 32)
			seen[Rounds(other)] = true
		}
		if len(seen) != 129 {
			t.Errorf("%08x: %d different lists of round keys, want 129", k, len(seen))
		}
	}
}

// P7.2

func TestTheExample(t *testing.T) {
	expectCipher(t, exampleKey, examplePlain, exampleCoded)
}

func TestBlocksOfTheRegularKeys(t *testing.T) {
	for _, k := range regularKeys() {
		for _, b := range regularBlocks() {
			expectCipher(t, k, b, pairOf(b).end(k, 0).block())
			expectCipher(t, k, pairOf(b).start(k, 27).block(), b)
		}
	}
}

func TestBlocksOfDrawnKeys(t *testing.T) {
	keys := append(drawnKeys(100), exampleKey)
	for i, b := range append(drawnBlocks(20000), regularBlocks()...) {
		k := keys[i%len(keys)]
		expectCipher(t, k, b, pairOf(b).end(k, 0).block())
		expectCipher(t, k, pairOf(b).start(k, 27).block(), b)
	}
}

// Each of the rounds in turn gets words whose sum passes 2^32, is 2^32, or is
// just below it.
func TestSumsOfBlocksAreModulo(t *testing.T) {
	words := []pair{
		{modulus - 1, 1}, {modulus - 1, modulus - 1}, {0x80, 1 << 31}, {0x100, modulus - 1},
		{modulus - 1, 0}, {0, modulus - 1}, {0x80, 1<<31 - 1}, {0x100, modulus - 2}, {0, 0},
	}
	over := 0
	for _, p := range words {
		if p.sum() >= modulus {
			over++
		}
	}
	if over != 4 {
		t.Fatalf("%d sums pass 2^32", over)
	}
	for _, k := range append(drawnKeys(20), exampleKey, api.Key{}) {
		for count := range 27 {
			for _, p := range words {
				expectCipher(t, k, p.start(k, count).block(), p.end(k, count).block())
			}
		}
	}
}

// P7.3

func TestDecryptAndEncryptAreInverse(t *testing.T) {
	blocks := append(drawnBlocks(200), regularBlocks()...)
	for _, k := range append(regularKeys(), drawnKeys(50)...) {
		for _, b := range blocks {
			if have := Decrypt(k, Encrypt(k, b)); have != b {
				t.Errorf("%08x: %016x is encrypted and decrypted to %016x", k, b, have)
			}
			if have := Encrypt(k, Decrypt(k, b)); have != b {
				t.Errorf("%08x: %016x is decrypted and encrypted to %016x", k, b, have)
			}
		}
	}
}

func TestDifferentBlocksHaveDifferentResults(t *testing.T) {
	blocks := map[uint64]bool{}
	for i := range uint64(1 << 14) {
		blocks[i], blocks[i<<25], blocks[i<<50] = true, true, true
	}
	for _, b := range append(drawnBlocks(1<<14), regularBlocks()...) {
		blocks[b] = true
	}
	for _, k := range []api.Key{{}, {1, 2, 3, 4}, exampleKey, drawnKeys(1)[0]} {
		coded, plain := map[uint64]bool{}, map[uint64]bool{}
		for b := range blocks {
			coded[Encrypt(k, b)] = true
			plain[Decrypt(k, b)] = true
		}
		if len(coded) != len(blocks) || len(plain) != len(blocks) {
			t.Errorf("%08x: %d blocks have %d and %d results", k, len(blocks), len(coded), len(plain))
		}
	}
}

// R3 and R5

func TestArgumentsAreNotModified(t *testing.T) {
	k, b := exampleKey, examplePlain
	Rounds(k)
	Encrypt(k, b)
	Decrypt(k, b)
	if k != (api.Key{0x1b1a1918, 0x13121110, 0x0b0a0908, 0x03020100}) || b != 0x3b7265747475432d {
		t.Errorf("%08x %016x", k, b)
	}
}

func TestResultsAreTheCallers(t *testing.T) {
	k := exampleKey
	first, second := Rounds(k), Rounds(k)
	for i := range first {
		first[i] = 99
	}
	k[0], k[3] = 98, 97
	if second != schedule(exampleKey) {
		t.Errorf("%08x", second)
	}
	expectRounds(t, exampleKey, second)
	expectCipher(t, exampleKey, examplePlain, exampleCoded)
}

func TestNothingIsKeptBetweenCalls(t *testing.T) {
	for _, k := range append(regularKeys(), drawnKeys(100)...) {
		Rounds(k)
		Encrypt(k, exampleCoded)
		Decrypt(k, examplePlain)
		expectRounds(t, exampleKey, schedule(exampleKey))
		expectCipher(t, exampleKey, examplePlain, exampleCoded)
	}
}
