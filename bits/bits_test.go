package bits

import (
	"bytes"
	"math"
	"strconv"
	"strings"
	"testing"

	"lineside/api"
)

// field is an integer and its width.
type field struct{ n, width int }

var badWidths = []int{math.MinInt, -32, -1, 0, 33, 64, 65, 1 << 32, 1<<32 + 8, math.MaxInt}

// invalidFields returns arguments that Put has to reject with ErrArg.
func invalidFields() []field {
	out := []field{
		{8, 3}, {2, 1}, {256, 8}, {1 << 31, 31}, {1 << 32, 32}, {1 << 40, 32},
		{-1, 1}, {-1, 3}, {-1, 32}, {math.MinInt, 32}, {math.MaxInt, 32},
	}
	for _, width := range badWidths {
		out = append(out, field{0, width}, field{1, width}, field{-1, width}, field{1 << 40, width})
	}
	return out
}

// filled returns a Writer that holds count bits, all 1.
func filled(t *testing.T, count int) *Writer {
	t.Helper()
	w := &Writer{}
	for range count {
		mustPut(t, w, field{1, 1})
	}
	return w
}

func mustPut(t *testing.T, w *Writer, f field) {
	t.Helper()
	if e := w.Put(f.n, f.width); e != api.OK {
		t.Fatalf("Put(%d, %d) = %d, want OK", f.n, f.width, e)
	}
}

func mustGet(t *testing.T, r *Reader, f field) {
	t.Helper()
	if n, e := r.Get(f.width); n != f.n || e != api.OK {
		t.Fatalf("Get(%d) = %d, %d, want %d, OK", f.width, n, e, f.n)
	}
}

// digits returns the width binary digits of n; it knows nothing of package bits.
func digits(f field) string {
	s := strconv.FormatInt(int64(f.n), 2)
	return strings.Repeat("0", f.width-len(s)) + s
}

// packed returns the bytes of binary digits, filled up with zeros.
func packed(t *testing.T, s string) []byte {
	t.Helper()
	s += strings.Repeat("0", (8-len(s)%8)%8)
	var out []byte
	for ; s != ""; s = s[8:] {
		n, err := strconv.ParseUint(s[:8], 2, 8)
		if err != nil {
			t.Fatal(err)
		}
		out = append(out, byte(n))
	}
	return out
}

// manyFields returns fields of all widths at many bit offsets, among them the
// least and the greatest number of each width.
func manyFields() []field {
	var out []field
	x := uint64(1)
	for range 4 {
		for width := 1; width <= 32; width++ {
			x = x*6364136223846793005 + 1442695040888963407
			top := 1<<width - 1
			out = append(out, field{0, width}, field{top, width}, field{int(x>>32) & top, width})
		}
	}
	return out
}

func wantWriter(t *testing.T, w *Writer, length int, want []byte) {
	t.Helper()
	if w.Len() != length || !bytes.Equal(w.Bytes(), want) {
		t.Errorf("Len %d, Bytes %x, want %d, %x", w.Len(), w.Bytes(), length, want)
	}
}

func wantPlace(t *testing.T, r *Reader, at, left int) {
	t.Helper()
	if r.At() != at || r.Left() != left {
		t.Errorf("At %d, Left %d, want %d, %d", r.At(), r.Left(), at, left)
	}
}

// P1.1

func TestZeroWriterHoldsNothing(t *testing.T) {
	wantWriter(t, &Writer{}, 0, nil)
}

func TestPutLaysMostSignificantBitFirst(t *testing.T) {
	cases := []struct {
		name   string
		fields []field
		length int
		want   []byte
	}{
		{"the chapter's example", []field{{5, 3}, {1, 7}}, 10, []byte{0xA0, 0x40}},
		{"one bit 0", []field{{0, 1}}, 1, []byte{0}},
		{"one bit 1", []field{{1, 1}}, 1, []byte{0x80}},
		{"a whole byte", []field{{0xB2, 8}}, 8, []byte{0xB2}},
		{"nine bits", []field{{0x101, 9}}, 9, []byte{0x80, 0x80}},
		{"32 bits", []field{{0x12345678, 32}}, 32, []byte{0x12, 0x34, 0x56, 0x78}},
		{"32 bits over five bytes", []field{{0, 3}, {0xFFFFFFFF, 32}}, 35, []byte{0x1F, 0xFF, 0xFF, 0xFF, 0xE0}},
		{"zeros in front", []field{{1, 32}}, 32, []byte{0, 0, 0, 1}},
		{"over a byte's edge", []field{{0, 6}, {0b1001, 4}}, 10, []byte{0x02, 0x40}},
	}
	for _, c := range cases {
		t.Run(c.name, func(t *testing.T) {
			w := &Writer{}
			for _, f := range c.fields {
				mustPut(t, w, f)
			}
			wantWriter(t, w, c.length, c.want)
		})
	}
}

func TestPutAcceptsLeastAndGreatestOfEachWidth(t *testing.T) {
	for width := 1; width <= 32; width++ {
		for _, n := range []int{0, 1<<width - 1} {
			w := &Writer{}
			mustPut(t, w, field{n, width})
			wantWriter(t, w, width, packed(t, digits(field{n, width})))
		}
		if e := (&Writer{}).Put(1<<width, width); e != api.ErrArg {
			t.Errorf("Put(2^%d, %d) = %d, want ErrArg", width, width, e)
		}
	}
}

func TestPutRejectsInvalidArguments(t *testing.T) {
	w := &Writer{}
	mustPut(t, w, field{5, 3})
	for _, f := range invalidFields() {
		if e := w.Put(f.n, f.width); e != api.ErrArg {
			t.Errorf("Put(%d, %d) = %d, want ErrArg", f.n, f.width, e)
		}
	}
	wantWriter(t, w, 3, []byte{0xA0})
	mustPut(t, w, field{1, 7})
	wantWriter(t, w, 10, []byte{0xA0, 0x40})
}

func TestPutFillsUpToTheLastBit(t *testing.T) {
	for width := 1; width <= 32; width++ {
		w := filled(t, api.MaxBits-width)
		mustPut(t, w, field{1, width})
		want := strings.Repeat("1", api.MaxBits-width) + digits(field{1, width})
		wantWriter(t, w, api.MaxBits, packed(t, want))
		if e := w.Put(0, 1); e != api.ErrLong {
			t.Errorf("Put(0, 1) into a full Writer = %d, want ErrLong", e)
		}
		wantWriter(t, w, api.MaxBits, packed(t, want))
	}
}

func TestPutBeyondTheLimitAppendsNothing(t *testing.T) {
	for width := 2; width <= 32; width++ {
		w := filled(t, api.MaxBits-width+1)
		before := w.Bytes()
		if e := w.Put(1<<width-1, width); e != api.ErrLong {
			t.Errorf("width %d: Put = %d, want ErrLong", width, e)
		}
		wantWriter(t, w, api.MaxBits-width+1, before)
		mustPut(t, w, field{0, width - 1})
		if w.Len() != api.MaxBits {
			t.Errorf("width %d: the bits that remained no longer fit: Len %d", width, w.Len())
		}
	}
}

func TestInvalidArgumentsPrecedeAFullWriter(t *testing.T) {
	w := filled(t, api.MaxBits)
	for _, f := range invalidFields() {
		if e := w.Put(f.n, f.width); e != api.ErrArg {
			t.Errorf("Put(%d, %d) = %d, want ErrArg", f.n, f.width, e)
		}
	}
	if w.Len() != api.MaxBits {
		t.Errorf("Len %d", w.Len())
	}
}

func TestNilWriter(t *testing.T) {
	var w *Writer
	for _, f := range invalidFields() {
		if e := w.Put(f.n, f.width); e != api.ErrArg {
			t.Errorf("Put(%d, %d) = %d, want ErrArg", f.n, f.width, e)
		}
	}
	for _, f := range []field{{0, 1}, {1, 1}, {0, 32}, {1<<32 - 1, 32}} {
		if e := w.Put(f.n, f.width); e != api.ErrLong {
			t.Errorf("Put(%d, %d) = %d, want ErrLong", f.n, f.width, e)
		}
	}
	wantWriter(t, w, 0, nil)
}

func TestBytesAreTheCallers(t *testing.T) {
	w := &Writer{}
	mustPut(t, w, field{5, 3})
	first := w.Bytes()
	first[0] = 0xFF
	wantWriter(t, w, 3, []byte{0xA0})
	second := w.Bytes()
	mustPut(t, w, field{31, 5})
	if second[0] != 0xA0 {
		t.Errorf("a later Put changed bytes that were returned: %x", second)
	}
	wantWriter(t, w, 8, []byte{0xBF})
}

func TestCopiedWriterSharesNothing(t *testing.T) {
	w := &Writer{}
	mustPut(t, w, field{5, 3})
	other := *w
	mustPut(t, w, field{0b11111, 5})
	mustPut(t, &other, field{0b00001, 5})
	wantWriter(t, w, 8, []byte{0xBF})
	wantWriter(t, &other, 8, []byte{0xA1})
}

// P1.2

func TestGetReadsMostSignificantBitFirst(t *testing.T) {
	cases := []struct {
		name   string
		b      []byte
		fields []field
	}{
		{"the chapter's example", []byte{0xA0, 0x40}, []field{{5, 3}, {1, 7}, {0, 6}}},
		{"bit by bit", []byte{0xB2}, []field{{1, 1}, {0, 1}, {1, 1}, {1, 1}, {0, 1}, {0, 1}, {1, 1}, {0, 1}}},
		{"a whole byte", []byte{0xB2}, []field{{0xB2, 8}}},
		{"nine bits", []byte{0x80, 0x80}, []field{{0x101, 9}, {0, 7}}},
		{"32 bits", []byte{0xFE, 0xDC, 0xBA, 0x98}, []field{{0xFEDCBA98, 32}}},
		{"32 bits over five bytes", []byte{0x1F, 0xFF, 0xFF, 0xFF, 0xE1}, []field{{0, 3}, {0xFFFFFFFF, 32}, {1, 5}}},
		{"over a byte's edge", []byte{0x02, 0x7F}, []field{{0, 6}, {0b1001, 4}, {0x3F, 6}}},
	}
	for _, c := range cases {
		t.Run(c.name, func(t *testing.T) {
			r := Read(c.b)
			at := 0
			wantPlace(t, r, 0, 8*len(c.b))
			for _, f := range c.fields {
				mustGet(t, r, f)
				at += f.width
				wantPlace(t, r, at, 8*len(c.b)-at)
			}
		})
	}
}

func TestGetRejectsInvalidWidths(t *testing.T) {
	r := Read(bytes.Repeat([]byte{0xFF}, 20))
	mustGet(t, r, field{7, 3})
	for _, width := range badWidths {
		if n, e := r.Get(width); n != 0 || e != api.ErrArg {
			t.Errorf("Get(%d) = %d, %d, want 0, ErrArg", width, n, e)
		}
	}
	wantPlace(t, r, 3, 157)
}

func TestGetBeyondTheEndConsumesNothing(t *testing.T) {
	r := Read([]byte{0xA0, 0x47})
	mustGet(t, r, field{5, 3})
	mustGet(t, r, field{1, 7})
	for width := 7; width <= 32; width++ {
		if n, e := r.Get(width); n != 0 || e != api.ErrShort {
			t.Errorf("Get(%d) = %d, %d, want 0, ErrShort", width, n, e)
		}
	}
	wantPlace(t, r, 10, 6)
	mustGet(t, r, field{7, 6})
	wantPlace(t, r, 16, 0)
}

// wantExhausted checks that r has no bits left and says so in the right order.
func wantExhausted(t *testing.T, r *Reader, at int) {
	t.Helper()
	for width := 1; width <= 32; width++ {
		if n, e := r.Get(width); n != 0 || e != api.ErrShort {
			t.Errorf("Get(%d) = %d, %d, want 0, ErrShort", width, n, e)
		}
	}
	for _, width := range badWidths {
		if n, e := r.Get(width); n != 0 || e != api.ErrArg {
			t.Errorf("Get(%d) = %d, %d, want 0, ErrArg", width, n, e)
		}
	}
	wantPlace(t, r, at, 0)
}

func TestReadersWithoutBits(t *testing.T) {
	t.Run("nil", func(t *testing.T) { wantExhausted(t, nil, 0) })
	t.Run("zero value", func(t *testing.T) { wantExhausted(t, &Reader{}, 0) })
	t.Run("of nil", func(t *testing.T) { wantExhausted(t, Read(nil), 0) })
	t.Run("of no bytes", func(t *testing.T) { wantExhausted(t, Read([]byte{}), 0) })
	t.Run("at the end", func(t *testing.T) {
		r := Read([]byte{0xFF, 0xFF})
		mustGet(t, r, field{0xFFFF, 16})
		wantExhausted(t, r, 16)
	})
}

func TestReadIsNotLimitedToAMessage(t *testing.T) {
	b := make([]byte, 2*api.MaxBits/8)
	b[len(b)-1] = 1
	r := Read(b)
	for range 8*len(b) - 1 {
		mustGet(t, r, field{0, 1})
	}
	mustGet(t, r, field{1, 1})
	wantPlace(t, r, 8*len(b), 0)
}

func TestReadCopiesItsBytes(t *testing.T) {
	b := []byte{0xA0, 0x40}
	r := Read(b)
	b[0], b[1] = 0xFF, 0xFF
	mustGet(t, r, field{5, 3})
	mustGet(t, r, field{1, 7})
	if b[0] != 0xFF || b[1] != 0xFF {
		t.Errorf("the argument was changed: %x", b)
	}
}

func TestReadDoesNotReachBehindItsSlice(t *testing.T) {
	b := []byte{0xA0, 0x40, 0xFF, 0xFF}
	r := Read(b[:2])
	mustGet(t, r, field{0xA040, 16})
	wantExhausted(t, r, 16)
}

func TestReadersAreIndependent(t *testing.T) {
	b := []byte{0xA0, 0x40}
	r, s := Read(b), Read(b)
	mustGet(t, r, field{5, 3})
	wantPlace(t, s, 0, 16)
	mustGet(t, s, field{0xA0, 8})
	wantPlace(t, r, 3, 13)
	mustGet(t, r, field{1, 7})
}

// P1.3

func TestPutThenGet(t *testing.T) {
	fields := manyFields()
	for from := 0; from+96 <= len(fields); from += 7 {
		w := &Writer{}
		text := ""
		for _, f := range fields[from : from+96] {
			mustPut(t, w, f)
			text += digits(f)
		}
		wantWriter(t, w, len(text), packed(t, text))
		r := Read(w.Bytes())
		for _, f := range fields[from : from+96] {
			mustGet(t, r, f)
		}
		wantPadding(t, r)
	}
}

// wantPadding checks that fewer than eight bits remain, all 0.
func wantPadding(t *testing.T, r *Reader) {
	t.Helper()
	if r.Left() >= 8 {
		t.Errorf("%d bits of padding", r.Left())
	}
	for r.Left() > 0 {
		mustGet(t, r, field{0, 1})
	}
}

func TestPaddingForEachLength(t *testing.T) {
	for count := range 70 {
		w := filled(t, count)
		r := Read(w.Bytes())
		for range count {
			mustGet(t, r, field{1, 1})
		}
		if want := (8 - count%8) % 8; r.Left() != want {
			t.Errorf("%d bits: %d bits of padding, want %d", count, r.Left(), want)
		}
		wantPadding(t, r)
	}
}

func TestFieldInTwoPieces(t *testing.T) {
	for _, f := range manyFields() {
		for second := 1; second < f.width; second++ {
			w := &Writer{}
			mustPut(t, w, field{0b101, 3})
			mustPut(t, w, f)
			r := Read(w.Bytes())
			mustGet(t, r, field{0b101, 3})
			high, e1 := r.Get(f.width - second)
			low, e2 := r.Get(second)
			if e1 != api.OK || e2 != api.OK || high*(1<<second)+low != f.n {
				t.Errorf("%d of width %d, second piece %d: %d, %d, %d, %d", f.n, f.width, second, high, e1, low, e2)
			}
		}
	}
}
