package odo

import (
	"math"
	"slices"
	"testing"

	"lineside/api"
)

const (
	far = 1 << 40        // the largest distance in decimetres
	top = 109951162777.6 // the reading whose product is far
)

var (
	inf     = math.Inf(1)
	low     = math.Copysign(0, -1)
	tiny    = math.SmallestNonzeroFloat64
	huge    = math.MaxFloat64
	overTop = math.Nextafter(top, inf)
	nan     = math.NaN()
)

// nanOf returns a NaN that differs from others in its bits.
func nanOf(payload uint64) float64 { return math.Float64frombits(0x7ff8000000000000 | payload) }

// negativeNaN returns a NaN whose sign bit is set.
func negativeNaN(payload uint64) float64 { return math.Copysign(nanOf(payload), -1) }

// bits returns the numbers of l as bits, so that zeros and NaNs can be told apart.
func bits(l []float64) []uint64 {
	out := make([]uint64, len(l))
	for i, x := range l {
		out[i] = math.Float64bits(x)
	}
	return out
}

func expectList(t *testing.T, what string, l, have, want []float64) {
	t.Helper()
	if !slices.Equal(bits(have), bits(want)) {
		t.Errorf("%s(%v): %v, want %v", what, l, have, want)
	}
}

// randoms returns count numbers that look random and often are equal, among them
// both zeros, both infinities and NaNs that all have different bits.
func randoms(seed uint64, count int) []float64 {
	out := make([]float64, count)
	for i := range out {
		seed = seed*6364136223846793005 + 1442695040888963407
		switch n := seed >> 40; n % 12 {
		case 0:
			out[i] = nanOf(uint64(i + 1))
		case 1:
			out[i] = negativeNaN(uint64(i + 1))
		case 2:
			out[i] = low
		case 3:
			out[i] = 0
		case 4:
			out[i] = inf
		case 5:
			out[i] = -inf
		default:
			out[i] = float64(int(n/12%41)-20) / 8
		}
	}
	return out
}

// The limits and errors of the chapter are those of api.

func TestLimits(t *testing.T) {
	if api.MaxDm != far || api.ErrRange != 7 || api.ErrFloat != 40 {
		t.Errorf("%d %d %d", api.MaxDm, api.ErrRange, api.ErrFloat)
	}
}

// P4.1

func expectWhole(t *testing.T, x float64, n int, err api.Errno) {
	t.Helper()
	if haveN, haveErr := Whole(x); haveN != n || haveErr != err {
		t.Errorf("Whole(%v): %d %d, want %d %d", x, haveN, haveErr, n, err)
	}
}

func TestWhole(t *testing.T) {
	for _, c := range []struct {
		x float64
		n int
	}{
		{1.25, 12}, {-1.25, -13}, {0, 0}, {low, 0},
		{1, 10}, {-1, -10}, {0.5, 5}, {-0.5, -5}, {12.75, 127}, {-12.75, -128},
		{0.0625, 0}, {-0.0625, -1}, {0.09375, 0}, {-0.09375, -1}, {0.125, 1}, {-0.125, -2},
		{tiny, 0}, {-tiny, -1}, {1e-300, 0}, {-1e-300, -1},
		{123456789.125, 1234567891}, {-123456789.125, -1234567892},
	} {
		expectWhole(t, c.x, c.n, api.OK)
	}
}

// The exact product of each of these readings lies beside an integer, on which
// the rounding of float64 puts it.
func TestWholeOfProductsThatAreRounded(t *testing.T) {
	for _, c := range []struct {
		x float64
		n int
	}{
		{0.3, 3}, {0.6, 6}, {0.7, 7}, {2.3, 23}, {8.2, 82}, {math.Nextafter(1, 0), 9},
		{-0.1, -1}, {-0.2, -2}, {-1.1, -11}, {-16.1, -161}, {-math.Nextafter(1, 2), -11},
	} {
		expectWhole(t, c.x, c.n, api.OK)
	}
}

func TestWholeAtTheLimits(t *testing.T) {
	expectWhole(t, top, far, api.OK)
	expectWhole(t, -top, -far, api.OK)
	under := math.Nextafter(top, 0)
	expectWhole(t, under, far-1, api.OK)
	expectWhole(t, -under, -far, api.OK)

	// Rounded down, this product would be far.
	if product := overTop * 10; product != math.Nextafter(far, inf) {
		t.Fatalf("the product is %v", product)
	}
	for _, x := range []float64{overTop, top + 1, 1e12, 1e18, 1e19, 1e300, huge, inf} {
		expectWhole(t, x, 0, api.ErrRange)
		expectWhole(t, -x, 0, api.ErrRange)
	}
}

func TestWholeOfNaNs(t *testing.T) {
	for _, x := range []float64{nan, nanOf(7), negativeNaN(7), inf - inf} {
		expectWhole(t, x, 0, api.ErrFloat)
	}
}

// P4.2

func expectBetween(t *testing.T, x, off float64, low, high int, err api.Errno) {
	t.Helper()
	if haveLow, haveHigh, haveErr := Between(x, off); haveLow != low || haveHigh != high || haveErr != err {
		t.Errorf("Between(%v, %v): %d %d %d, want %d %d %d", x, off, haveLow, haveHigh, haveErr, low, high, err)
	}
}

func TestBetween(t *testing.T) {
	for _, c := range []struct {
		x, off    float64
		low, high int
	}{
		{10, 0.15, 98, 102}, {-10, 0.15, -102, -98}, {10, 0.5, 95, 105},
		{0, 0, 0, 0}, {low, 0, 0, 0}, {0, low, 0, 0}, {low, low, 0, 0},
		{0, 1, -10, 10}, {low, 1, -10, 10}, {0, 0.0625, -1, 1}, {0, tiny, -1, 1},
		{tiny, 0, 0, 1}, {-tiny, 0, -1, 0}, {1.25, 0, 12, 13}, {-1.25, 0, -13, -12},
		{1.25, 0.125, 11, 14}, {-1.25, 0.125, -14, -11},
		{1, 100, -990, 1010}, {-1, 100, -1010, 990},
	} {
		expectBetween(t, c.x, c.off, c.low, c.high, api.OK)
	}
}

func TestBetweenWithAToleranceOfNegativeZero(t *testing.T) {
	expectBetween(t, 1, low, 10, 10, api.OK)
	expectBetween(t, 1.25, low, 12, 13, api.OK)
	expectBetween(t, -1.25, low, -13, -12, api.OK)
	expectBetween(t, top, low, far, far, api.OK)
	expectBetween(t, nan, low, 0, 0, api.ErrFloat)
	expectBetween(t, inf, low, 0, 0, api.ErrRange)
}

// The sum, the difference and the products are rounded each on its own.
func TestBetweenOfProductsThatAreRounded(t *testing.T) {
	expectBetween(t, 1.1, 0, 11, 11, api.OK)
	expectBetween(t, 2.3, 0, 23, 23, api.OK)
	expectBetween(t, 0.2, 0.1, 1, 4, api.OK)
	expectBetween(t, 0.3, 0.1, 1, 4, api.OK)
	expectBetween(t, 1.2, 0.1, 10, 13, api.OK)
	expectBetween(t, 1.1, 0.1, 10, 13, api.OK)
	expectBetween(t, 0.7, 0.1, 6, 8, api.OK)
	expectBetween(t, 1, tiny, 10, 10, api.OK)
}

func TestBetweenAtTheLimits(t *testing.T) {
	expectBetween(t, top, 0, far, far, api.OK)
	expectBetween(t, -top, 0, -far, -far, api.OK)
	expectBetween(t, 0, top, -far, far, api.OK)
	expectBetween(t, low, top, -far, far, api.OK)
	expectBetween(t, 0, math.Nextafter(top, 0), -far, far, api.OK)
	expectBetween(t, top/2, top/2, 0, far, api.OK)
	expectBetween(t, -top/2, top/2, -far, 0, api.OK)

	for _, c := range [][2]float64{
		{overTop, 0}, {0, overTop}, {1, top}, {-1, top}, {top, 1}, {-top, 1},
		{top, overTop}, {-top, overTop}, {top + 2, 1}, {1e18, 0}, {0, 1e18}, {1e18, 1e18},
		{huge, 0}, {0, huge}, {huge, huge}, {-huge, huge},
		{inf, 0}, {-inf, 0}, {0, inf}, {1, inf}, {-1, inf}, {inf, 1}, {-inf, 1},
		{inf, inf}, {-inf, inf}, {inf, huge}, {huge, inf},
	} {
		expectBetween(t, c[0], c[1], 0, 0, api.ErrRange)
		expectBetween(t, -c[0], c[1], 0, 0, api.ErrRange)
	}

	// Of these, one product is just beyond its limit and the other one is not.
	if product := (1 + (overTop - 1)) * 10; product != math.Nextafter(far, inf) {
		t.Fatalf("the product is %v", product)
	}
	expectBetween(t, 1, overTop-1, 0, 0, api.ErrRange)
	expectBetween(t, -1, overTop-1, 0, 0, api.ErrRange)
}

func TestBetweenOfReadingsAndTolerancesThatAreNone(t *testing.T) {
	others := []float64{0, low, 1, -1, top, overTop, huge, -huge, inf, -inf, nan, nanOf(7), negativeNaN(7)}
	for _, x := range others {
		for _, off := range []float64{nan, nanOf(7), negativeNaN(7), -tiny, -0.15, -1, -overTop, -huge, -inf} {
			expectBetween(t, x, off, 0, 0, api.ErrFloat)
		}
		for _, none := range []float64{nan, nanOf(7), negativeNaN(7)} {
			expectBetween(t, none, x, 0, 0, api.ErrFloat)
		}
	}
}

// P4.3

// classes returns numbers in order; those of one list are equivalent.
func classes() [][]float64 {
	return [][]float64{
		{-inf, -inf}, {-huge}, {-2}, {math.Nextafter(-1, -2)}, {-1, -1}, {-math.SmallestNonzeroFloat64},
		{low, low}, {0, 0},
		{tiny}, {1, 1}, {math.Nextafter(1, 2)}, {2}, {huge}, {inf, inf},
		{nan, nanOf(1), nanOf(2), negativeNaN(1), negativeNaN(2)},
	}
}

func TestOrder(t *testing.T) {
	for i, first := range classes() {
		for j, second := range classes() {
			for _, a := range first {
				for _, b := range second {
					if less := Less(a, b); less != (i < j) {
						t.Errorf("Less(%v, %v): %v", a, b, less)
					}
					if same := Same(a, b); same != (i == j) {
						t.Errorf("Same(%v, %v): %v", a, b, same)
					}
				}
			}
		}
	}
}

// P4.4

func TestSort(t *testing.T) {
	for _, c := range []struct{ l, want []float64 }{
		{nil, nil},
		{[]float64{}, nil},
		{[]float64{3}, []float64{3}},
		{[]float64{nan}, []float64{nan}},
		{[]float64{low}, []float64{low}},
		{[]float64{2, 1}, []float64{1, 2}},
		{[]float64{2, -1, 3}, []float64{-1, 2, 3}},
		{[]float64{0, low}, []float64{low, 0}},
		{[]float64{low, 0}, []float64{low, 0}},
		{[]float64{0, low, 0, low, 0}, []float64{low, low, 0, 0, 0}},
		{[]float64{5, 5, 5}, []float64{5, 5, 5}},
		{[]float64{nan, 2, 0, low, -inf, inf}, []float64{-inf, low, 0, 2, inf, nan}},
		{[]float64{tiny, 0, -tiny, low, 0}, []float64{-tiny, low, 0, 0, tiny}},
		{[]float64{1, nan, inf, nan, -1}, []float64{-1, 1, inf, nan, nan}},
		{
			[]float64{nanOf(3), 1, negativeNaN(2), inf, nanOf(1), -1, negativeNaN(4)},
			[]float64{-1, 1, inf, nanOf(3), negativeNaN(2), nanOf(1), negativeNaN(4)},
		},
	} {
		expectList(t, "Sort", c.l, Sort(c.l), c.want)
	}
}

// sortedBits is a second way to sort, by numbers that stand for the order.
func sortedBits(l []float64) []uint64 {
	rank := func(x uint64) int64 {
		switch {
		case x<<1 > 0x7ff0000000000000<<1: // a NaN
			return math.MaxInt64
		case x>>63 == 1:
			return -1 - int64(x<<1>>1)
		}
		return int64(x)
	}
	out := []uint64{}
	for _, x := range bits(l) {
		at := len(out)
		for at > 0 && rank(out[at-1]) > rank(x) {
			at--
		}
		out = slices.Insert(out, at, x)
	}
	return out
}

func TestSortOfLongListsIsStable(t *testing.T) {
	for count := range 300 {
		l := randoms(uint64(count), count)
		if have, want := bits(Sort(l)), sortedBits(l); !slices.Equal(have, want) {
			t.Fatalf("%d numbers: %x, want %x", count, have, want)
		}
	}
}

func expectMiddle(t *testing.T, l []float64, want float64, some bool) {
	t.Helper()
	if have, ok := Middle(l); math.Float64bits(have) != math.Float64bits(want) || ok != some {
		t.Errorf("Middle(%v): %v %v, want %v %v", l, have, ok, want, some)
	}
}

func TestMiddle(t *testing.T) {
	for _, c := range []struct {
		l    []float64
		want float64
	}{
		{[]float64{nan, 3, -1, 2, 7}, 2},
		{[]float64{5}, 5}, {[]float64{-5}, -5}, {[]float64{0}, 0}, {[]float64{low}, low},
		{[]float64{inf}, inf}, {[]float64{-inf}, -inf},
		{[]float64{2, 1}, 1}, {[]float64{1, 2}, 1}, {[]float64{0, low}, low}, {[]float64{low, 0}, low},
		{[]float64{inf, -inf}, -inf}, {[]float64{inf, inf}, inf},
		{[]float64{3, 1, 2}, 2}, {[]float64{0, 0, low}, 0}, {[]float64{0, low, low}, low},
		{[]float64{inf, 1, inf}, inf}, {[]float64{-inf, inf, 4}, 4}, {[]float64{7, 7, 7}, 7},
		{[]float64{4, 1, 3, 2}, 2}, {[]float64{-inf, 0, low, inf}, low}, {[]float64{8, 8, 9, 9}, 8},
		{[]float64{9, 1, 8, 2, 7}, 7}, {[]float64{9, 1, 8, 2, 7, 3}, 3},
		{[]float64{nan, 5}, 5}, {[]float64{5, nan}, 5}, {[]float64{nan, 6, nan, nan, 5, nan}, 5},
		{[]float64{negativeNaN(1), 1, 2, 3, nan, nanOf(2)}, 2},
	} {
		expectMiddle(t, c.l, c.want, true)
	}
}

func TestMiddleOfNothing(t *testing.T) {
	expectMiddle(t, nil, 0, false)
	expectMiddle(t, []float64{}, 0, false)
	expectMiddle(t, []float64{nan}, 0, false)
	expectMiddle(t, []float64{nan, nanOf(1), negativeNaN(2)}, 0, false)
}

func TestMiddleOfLongLists(t *testing.T) {
	for count := range 300 {
		l := randoms(uint64(count), count)
		numbers := slices.DeleteFunc(slices.Clone(l), math.IsNaN)
		if len(numbers) == 0 {
			expectMiddle(t, l, 0, false)
			continue
		}
		want := sortedBits(numbers)[(len(numbers)-1)/2]
		expectMiddle(t, l, math.Float64frombits(want), true)
	}
}

func TestClean(t *testing.T) {
	for _, c := range []struct{ l, want []float64 }{
		{nil, nil},
		{[]float64{}, nil},
		{[]float64{4}, []float64{4}},
		{[]float64{low}, []float64{0}},
		{[]float64{0}, []float64{0}},
		{[]float64{nan}, nil},
		{[]float64{inf}, nil},
		{[]float64{-inf}, nil},
		{[]float64{nan, inf, -inf, nanOf(1), negativeNaN(2)}, nil},
		{[]float64{nan, low, inf, 5}, []float64{0, 5}},
		{[]float64{3, -1, 3, 2, -1}, []float64{3, -1, 3, 2, -1}},
		{[]float64{0, low, 0, low}, []float64{0, 0, 0, 0}},
		{[]float64{tiny, -tiny, huge, -huge}, []float64{tiny, -tiny, huge, -huge}},
		{[]float64{9, -inf, 7, nan, low, 8, inf}, []float64{9, 7, 0, 8}},
	} {
		expectList(t, "Clean", c.l, Clean(c.l), c.want)
	}
}

// P4.5

func TestExactlyOneOfLessAndSame(t *testing.T) {
	l := append(randoms(1, 200), slices.Concat(classes()...)...)
	for _, a := range l {
		for _, b := range l {
			count := 0
			for _, holds := range []bool{Less(a, b), Less(b, a), Same(a, b)} {
				if holds {
					count++
				}
			}
			if count != 1 {
				t.Fatalf("%v and %v: %d of the three are true", a, b, count)
			}
		}
	}
}

func TestBetweenContainsWhole(t *testing.T) {
	for _, x := range []float64{0, low, tiny, -tiny, 0.1, -0.1, 0.3, 0.7, -0.7, 1.1, -1.1, 10, 1.25, -1.25, 98765.4321, top, -top} {
		for _, off := range []float64{0, low, tiny, 0.1, 0.15, 0.3, 1, 7.7, 1e-9} {
			least, most, err := Between(x, off)
			if err != api.OK {
				continue
			}
			step := off / 16
			for _, y := range []float64{x, x - off, x + off, x - 9*step, x - step, x + step, x + 9*step} {
				if n, err := Whole(y); err != api.OK || n < least || n > most {
					t.Errorf("Between(%v, %v): %d to %d, Whole(%v): %d %d", x, off, least, most, y, n, err)
				}
			}
		}
	}
}

// R3

func TestArgumentsAreNotModified(t *testing.T) {
	for count := range 60 {
		whole := randoms(uint64(count), count+3)
		before := bits(whole)
		l := whole[:count] // what lies behind a list is not touched either
		for _, out := range [][]float64{Sort(l), Clean(l)} {
			for i := range out {
				out[i] = 99
			}
			_ = append(out, 98, 97, 96)
		}
		Middle(l)
		if !slices.Equal(bits(whole), before) {
			t.Fatalf("%d numbers: %x, were %x", count, bits(whole), before)
		}
	}
}

func TestResultsAreTheCallers(t *testing.T) {
	for name, call := range map[string]func([]float64) []float64{"Sort": Sort, "Clean": Clean} {
		l := []float64{1, 2, 3}
		first, second := call(l), call(l)
		l[0], first[1] = 98, 99
		expectList(t, name, l, first, []float64{1, 99, 3})
		expectList(t, name, l, second, []float64{1, 2, 3})
	}
}
