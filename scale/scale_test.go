package scale

import (
	"math"
	"testing"

	"lineside/api"
)

// units is the chapter's table of the scales.
var units = []int{1, 10, 100}

// noScales are numbers that no scale has.
var noScales = []int{math.MinInt, math.MinInt + 1, -100, -2, -1, 3, 4, 10, 100, 1 << 32, 1 << 62, math.MaxInt}

const (
	most = 32766   // the largest scaled distance
	far  = 1 << 40 // the largest distance in decimetres
)

type outcome struct {
	n   int
	err api.Errno
}

func got(n int, err api.Errno) outcome { return outcome{n, err} }

func good(n int) outcome { return outcome{n, api.OK} }

func bad(err api.Errno) outcome { return outcome{0, err} }

func expect(t *testing.T, what string, have, want outcome, args ...any) {
	t.Helper()
	if have != want {
		t.Errorf("%s %v: %v, want %v", what, args, have, want)
	}
}

// The limits and errors of the chapter are those of api.

func TestLimits(t *testing.T) {
	if api.MaxScaled != most || api.MaxDm != far || api.ErrArg != 1 || api.ErrRange != 7 {
		t.Errorf("%d %d %d %d", api.MaxScaled, api.MaxDm, api.ErrArg, api.ErrRange)
	}
}

// P3.1

func TestUnit(t *testing.T) {
	for scale, want := range units {
		if unit := Unit(scale); unit != want {
			t.Errorf("Unit(%d): %d, want %d", scale, unit, want)
		}
	}
	for _, scale := range noScales {
		if unit := Unit(scale); unit != 0 {
			t.Errorf("Unit(%d): %d, want 0", scale, unit)
		}
	}
}

func TestDm(t *testing.T) {
	expect(t, "Dm", got(Dm(25, 1)), good(250), 25, 1)
	for scale, unit := range units {
		for _, n := range []int{0, 1, 2, 9, 10, 11, 99, 100, 101, 16383, 32765, most} {
			expect(t, "Dm", got(Dm(n, scale)), good(n*unit), n, scale)
		}
	}
	expect(t, "Dm", got(Dm(most, 2)), good(3276600), most, 2)
}

func TestDmOfNumbersOutOfRange(t *testing.T) {
	for scale := range units {
		for _, n := range []int{math.MinInt, -most, -2, -1, 32767, 32768, far, far + 1, math.MaxInt} {
			expect(t, "Dm", got(Dm(n, scale)), bad(api.ErrRange), n, scale)
		}
	}
}

func TestDmLooksAtTheScaleFirst(t *testing.T) {
	for _, scale := range noScales {
		for _, n := range []int{math.MinInt, -1, 0, 1, most, most + 1, math.MaxInt} {
			expect(t, "Dm", got(Dm(n, scale)), bad(api.ErrArg), n, scale)
		}
	}
}

// P3.2

func TestScaled(t *testing.T) {
	for _, c := range []struct {
		dm, scale, down, up int
	}{
		{0, 0, 0, 0}, {1, 0, 1, 1}, {259, 0, 259, 259}, {32765, 0, 32765, 32765}, {32766, 0, most, most},
		{0, 1, 0, 0}, {1, 1, 0, 1}, {9, 1, 0, 1}, {10, 1, 1, 1}, {11, 1, 1, 2},
		{249, 1, 24, 25}, {250, 1, 25, 25}, {251, 1, 25, 26}, {259, 1, 25, 26}, {260, 1, 26, 26},
		{327649, 1, 32764, 32765}, {327650, 1, 32765, 32765}, {327651, 1, 32765, most}, {327660, 1, most, most},
		{0, 2, 0, 0}, {1, 2, 0, 1}, {50, 2, 0, 1}, {99, 2, 0, 1}, {100, 2, 1, 1}, {101, 2, 1, 2},
		{199, 2, 1, 2}, {200, 2, 2, 2}, {3276500, 2, 32765, 32765}, {3276501, 2, 32765, most}, {3276600, 2, most, most},
	} {
		expect(t, "Scaled", got(Scaled(c.dm, c.scale, false)), good(c.down), c.dm, c.scale, false)
		expect(t, "Scaled", got(Scaled(c.dm, c.scale, true)), good(c.up), c.dm, c.scale, true)
	}
}

func TestScaledAtTheLargestNumber(t *testing.T) {
	for scale, unit := range units {
		top := most * unit
		expect(t, "Scaled", got(Scaled(top+unit-1, scale, false)), good(most), top+unit-1, scale, false)
		expect(t, "Scaled", got(Scaled(top+unit, scale, false)), bad(api.ErrRange), top+unit, scale, false)
		expect(t, "Scaled", got(Scaled(top, scale, true)), good(most), top, scale, true)
		expect(t, "Scaled", got(Scaled(top+1, scale, true)), bad(api.ErrRange), top+1, scale, true)
	}
}

func TestScaledOfDistancesOutOfRange(t *testing.T) {
	for scale := range units {
		for _, up := range []bool{false, true} {
			for _, dm := range []int{
				math.MinInt, math.MinInt + 1, -far, -100, -99, -10, -9, -1,
				far - 1, far, far + 1, 1 << 62, math.MaxInt - 99, math.MaxInt - 1, math.MaxInt,
			} {
				expect(t, "Scaled", got(Scaled(dm, scale, up)), bad(api.ErrRange), dm, scale, up)
			}
		}
	}
}

func TestScaledLooksAtTheScaleFirst(t *testing.T) {
	for _, scale := range noScales {
		for _, up := range []bool{false, true} {
			for _, dm := range []int{math.MinInt, -1, 0, 5, far, far + 1, math.MaxInt} {
				expect(t, "Scaled", got(Scaled(dm, scale, up)), bad(api.ErrArg), dm, scale, up)
			}
		}
	}
}

func TestBest(t *testing.T) {
	for _, c := range []struct{ dm, want int }{
		{0, 0}, {1, 0}, {9, 0}, {100, 0}, {32765, 0}, {32766, 0},
		{32767, 1}, {32770, 1}, {100000, 1}, {327659, 1}, {327660, 1},
		{327661, 2}, {1000000, 2}, {3276599, 2}, {3276600, 2},
		{3276601, -1}, {3276700, -1}, {far, -1}, {far + 1, -1}, {math.MaxInt, -1},
		{-1, -1}, {-10, -1}, {-32766, -1}, {-far, -1}, {math.MinInt, -1},
	} {
		if best := Best(c.dm); best != c.want {
			t.Errorf("Best(%d): %d, want %d", c.dm, best, c.want)
		}
	}
}

func TestBestIsTheFirstScaleThatScaledAccepts(t *testing.T) {
	for dm := -1000; dm < 3300000; dm += 37 {
		want := -1
		for scale := len(units) - 1; scale >= 0; scale-- {
			if _, err := Scaled(dm, scale, true); err == api.OK {
				want = scale
			}
		}
		if best := Best(dm); best != want {
			t.Fatalf("Best(%d): %d, want %d", dm, best, want)
		}
	}
}

// P3.3

func TestSum(t *testing.T) {
	for _, c := range [][3]int{
		{0, 0, 0}, {-5, 3, -2}, {3, -5, -2}, {290, 251, 541}, {-7, -8, -15},
		{far, 0, far}, {0, far, far}, {-far, 0, -far}, {0, -far, -far},
		{far, -far, 0}, {-far, far, 0}, {far - 1, 1, far}, {1, far - 1, far},
		{1 - far, -1, -far}, {-1, 1 - far, -far}, {far, -1, far - 1}, {-far, 1, 1 - far},
		{far / 2, far / 2, far}, {-far / 2, -far / 2, -far},
	} {
		expect(t, "Sum", got(Sum(c[0], c[1])), good(c[2]), c[0], c[1])
	}
}

func TestSumOutOfRange(t *testing.T) {
	for _, c := range [][2]int{
		{far, 1}, {-far, -1}, {far, far}, {-far, -far}, {far / 2, far/2 + 1}, {-far / 2, -far/2 - 1},
		{far + 1, 0}, {far + 1, -1}, {far + 1, -5}, {far + 1, -far}, {far + 1, -far - 1},
		{-far - 1, 0}, {-far - 1, 1}, {-far - 1, 5}, {-far - 1, far},
		{math.MaxInt, 0}, {math.MaxInt, 1}, {math.MaxInt, -1}, {math.MaxInt, -far}, {math.MaxInt, math.MaxInt},
		{math.MinInt, 0}, {math.MinInt, -1}, {math.MinInt, 1}, {math.MinInt, far}, {math.MinInt, math.MinInt},
		{math.MinInt, math.MaxInt}, {math.MaxInt - far, far}, {1 << 62, 1 << 62}, {1 << 62, -1 << 62},
	} {
		expect(t, "Sum", got(Sum(c[0], c[1])), bad(api.ErrRange), c[0], c[1])
		expect(t, "Sum", got(Sum(c[1], c[0])), bad(api.ErrRange), c[1], c[0])
	}
}

// P3.4

func TestScaledOfDm(t *testing.T) {
	for scale := range units {
		for n := 0; n <= most; n++ {
			dm, err := Dm(n, scale)
			if err != api.OK {
				t.Fatalf("Dm(%d, %d): %d", n, scale, err)
			}
			for _, up := range []bool{false, true} {
				if have := got(Scaled(dm, scale, up)); have != good(n) {
					t.Fatalf("Scaled(%d, %d, %v): %v, want %d", dm, scale, up, have, n)
				}
			}
		}
	}
}

// back returns the distance dm after it was scaled and converted back.
func back(t *testing.T, dm, scale int, up bool) int {
	t.Helper()
	n, err := Scaled(dm, scale, up)
	if err != api.OK {
		t.Fatalf("Scaled(%d, %d, %v): %d", dm, scale, up, err)
	}
	again, err := Dm(n, scale)
	if err != api.OK {
		t.Fatalf("Dm(%d, %d): %d", n, scale, err)
	}
	return again
}

func TestRoundingStaysWithinOneUnit(t *testing.T) {
	for scale, unit := range units {
		for dm := 0; dm <= most*unit; dm += 1 + dm/5000 {
			down, up := back(t, dm, scale, false), back(t, dm, scale, true)
			if down > dm || dm-down >= unit || up < dm || up-dm >= unit {
				t.Fatalf("%d in scale %d: down %d, up %d", dm, scale, down, up)
			}
		}
	}
}

func TestSmallerScalesAreNoLessPrecise(t *testing.T) {
	for scale := 1; scale < len(units); scale++ {
		for dm := 0; dm <= most*units[scale-1]; dm += 1 + dm/5000 {
			for _, up := range []bool{false, true} {
				fine, coarse := back(t, dm, scale-1, up)-dm, back(t, dm, scale, up)-dm
				if max(fine, -fine) > max(coarse, -coarse) {
					t.Fatalf("%d: off by %d in scale %d, by %d in scale %d", dm, fine, scale-1, coarse, scale)
				}
			}
		}
	}
}
