package stamp

import (
	"math"
	"math/big"
	"slices"
	"testing"

	"lineside/api"
)

// greatest is the greatest time.
const greatest = 4294967294

// times are times, among them those at both ends.
var times = []int{0, 1, 2, 99, 1 << 16, 1<<31 - 1, 1 << 31, greatest - 1, greatest}

// noTimes are integers that are no times. Cut to 32 bits, some of them would be.
var noTimes = []int{
	math.MinInt, math.MinInt + 1, math.MinInt + greatest, -1 << 62, -1<<32 - 1, -1 << 32, -greatest, -99, -2, -1,
	greatest + 1, greatest + 2, greatest + 3, 1<<32 + 99, 1 << 33, 1 << 62, math.MaxInt - greatest, math.MaxInt - 1, math.MaxInt,
}

// numbers are all of these.
var numbers = slices.Concat(times, noTimes)

// stamp writes a Stamp as the chapter does: Ahead and Behind first, as in New.
func stamp(ahead, behind, last int, free bool) api.Stamp {
	return api.Stamp{Last: last, Ahead: ahead, Behind: behind, Free: free}
}

// The rules of the chapter written anew, on integers of any size.

func sum(a, b int) *big.Int { return new(big.Int).Add(big.NewInt(int64(a)), big.NewInt(int64(b))) }

func less(a, b *big.Int) bool { return a.Cmp(b) < 0 }

func sumIsTime(a, b int) bool {
	n := sum(a, b)
	return n.Sign() >= 0 && !less(big.NewInt(greatest), n)
}

func valid(s api.Stamp) bool {
	return sumIsTime(s.Ahead, 0) && sumIsTime(s.Behind, 0) && (s.Last == -1 || sumIsTime(s.Last, 0))
}

func stale(s api.Stamp, t, now int) bool {
	switch {
	case less(sum(now, s.Ahead), sum(t, 0)):
		return true
	case less(sum(t, s.Behind), sum(now, 0)):
		return true
	}
	return !s.Free && t <= s.Last
}

func taken(s api.Stamp, t, now int) (api.Stamp, api.Errno) {
	switch {
	case !valid(s) || !sumIsTime(t, 0) || !sumIsTime(now, 0):
		return api.Stamp{}, api.ErrArg
	case stale(s, t, now):
		return api.Stamp{}, api.ErrStale
	}
	return stamp(s.Ahead, s.Behind, t, false), api.OK
}

func expectTake(t *testing.T, s api.Stamp, at, now int, want api.Stamp, wantErr api.Errno) {
	t.Helper()
	have, err := Take(s, at, now)
	if have != want || err != wantErr {
		t.Fatalf("Take(%+v, %d, %d): %+v %d, want %+v %d", s, at, now, have, err, want, wantErr)
	}
}

func expectTaken(t *testing.T, s api.Stamp, at, now int) {
	t.Helper()
	expectTake(t, s, at, now, stamp(s.Ahead, s.Behind, at, false), api.OK)
}

func expectRefused(t *testing.T, s api.Stamp, at, now int, err api.Errno) {
	t.Helper()
	expectTake(t, s, at, now, api.Stamp{}, err)
}

// The limits and errors of the chapter are those of api.

func TestLimits(t *testing.T) {
	if api.MaxTime != greatest || api.ErrArg != 1 || api.ErrRange != 7 || api.ErrStale != 110 {
		t.Errorf("%d %d %d %d", api.MaxTime, api.ErrArg, api.ErrRange, api.ErrStale)
	}
}

// The chapter's examples.

func TestExamples(t *testing.T) {
	s, err := New(10, 100)
	if want := (api.Stamp{Last: -1, Ahead: 10, Behind: 100}); s != want || err != api.OK {
		t.Fatalf("New(10, 100): %+v %d", s, err)
	}
	expectTake(t, s, 50, 60, api.Stamp{Last: 50, Ahead: 10, Behind: 100}, api.OK)
	s, _ = Take(s, 50, 60)
	expectRefused(t, s, 50, 60, api.ErrStale)
	expectRefused(t, s, 71, 60, api.ErrStale)
	expectRefused(t, s, 51, 152, api.ErrStale)
	expectTake(t, Release(s), 40, 60, api.Stamp{Last: 40, Ahead: 10, Behind: 100}, api.OK)
}

// P11.1

func TestNew(t *testing.T) {
	for _, ahead := range times {
		for _, behind := range times {
			s, err := New(ahead, behind)
			if s != stamp(ahead, behind, -1, false) || err != api.OK {
				t.Errorf("New(%d, %d): %+v %d", ahead, behind, s, err)
			}
			if !May(s) {
				t.Errorf("New(%d, %d): %+v may not be", ahead, behind, s)
			}
		}
	}
}

func expectNoNew(t *testing.T, ahead, behind int) {
	t.Helper()
	if s, err := New(ahead, behind); s != (api.Stamp{}) || err != api.ErrArg {
		t.Errorf("New(%d, %d): %+v %d, want ErrArg", ahead, behind, s, err)
	}
}

func TestNewOfWhatIsNoTime(t *testing.T) {
	for _, bad := range noTimes {
		for _, other := range numbers {
			expectNoNew(t, bad, other)
			expectNoNew(t, other, bad)
		}
	}
}

func expectMay(t *testing.T, ahead, behind, last int, want bool) {
	t.Helper()
	for _, free := range []bool{false, true} {
		if s := stamp(ahead, behind, last, free); May(s) != want {
			t.Errorf("May(%+v): %v", s, !want)
		}
	}
}

func TestMay(t *testing.T) {
	for _, a := range times {
		for _, b := range times {
			expectMay(t, a, b, -1, true)
			for _, c := range times {
				expectMay(t, a, b, c, true)
			}
		}
	}
	if !May(api.Stamp{}) {
		t.Error("the zero value may not be")
	}
}

func TestMayOfWhatIsNoTime(t *testing.T) {
	for _, bad := range noTimes {
		for _, a := range times {
			for _, b := range append([]int{-1}, times...) {
				expectMay(t, bad, a, b, false)
				expectMay(t, a, bad, b, false)
				if bad != -1 {
					expectMay(t, a, max(b, 0), bad, false)
				}
			}
		}
	}
}

// Each field is looked at, also when the others are wrong.
func TestMayOfAllNumbers(t *testing.T) {
	for _, a := range numbers {
		for _, b := range numbers {
			for _, c := range numbers {
				expectMay(t, a, b, c, valid(stamp(a, b, c, false)))
			}
		}
	}
}

// P11.2

func TestTakeAtTheEndsOfTheWindow(t *testing.T) {
	for _, free := range []bool{false, true} {
		s := stamp(10, 100, -1, free)
		expectTaken(t, s, 610, 600)
		expectRefused(t, s, 611, 600, api.ErrStale)
		expectTaken(t, s, 500, 600)
		expectRefused(t, s, 499, 600, api.ErrStale)
		for at := 500; at <= 610; at++ {
			expectTaken(t, s, at, 600)
		}
		for _, at := range []int{0, 1, 490, 498, 612, 700, 1210, greatest - 1, greatest} {
			expectRefused(t, s, at, 600, api.ErrStale)
		}
	}
}

func TestTakeWithoutAWindow(t *testing.T) {
	for _, free := range []bool{false, true} {
		s := stamp(0, 0, -1, free)
		for _, now := range times {
			for _, at := range times {
				if at == now {
					expectTaken(t, s, at, now)
				} else {
					expectRefused(t, s, at, now, api.ErrStale)
				}
			}
		}
	}
}

func TestTakeOfWhatIsNotGreaterThanLast(t *testing.T) {
	for _, last := range []int{1, 50, 1 << 31, greatest - 1} {
		held, free := stamp(greatest, greatest, last, false), stamp(greatest, greatest, last, true)
		expectRefused(t, held, last, last, api.ErrStale)
		expectRefused(t, held, last-1, last, api.ErrStale)
		expectRefused(t, held, 0, last, api.ErrStale)
		expectTaken(t, held, last+1, last)
		expectTaken(t, held, greatest, last)
		for _, at := range []int{0, last - 1, last, last + 1, greatest} {
			expectTaken(t, free, at, last)
		}
	}
}

func TestTakeAtTheEndsOfTheTimes(t *testing.T) {
	for _, now := range []int{0, 7, greatest} {
		s := stamp(greatest, greatest, -1, false)
		expectTaken(t, s, 0, now)
		expectTaken(t, s, greatest, now)
		s.Last = 0
		expectRefused(t, s, 0, now, api.ErrStale)
		expectTaken(t, s, 1, now)
		s.Last = greatest
		expectRefused(t, s, greatest, now, api.ErrStale)
		expectTaken(t, Release(s), greatest, now)
	}
}

// A window that goes beyond an end of the times is as wide as any other.
func TestTakeOfWindowsBeyondTheTimes(t *testing.T) {
	for _, c := range []struct {
		ahead, behind, t, now int
		err                   api.Errno
	}{
		{10, 10, greatest, greatest, api.OK},
		{10, 10, greatest - 10, greatest, api.OK},
		{10, 10, greatest - 11, greatest, api.ErrStale},
		{10, 10, greatest, greatest - 10, api.OK},
		{10, 10, greatest, greatest - 11, api.ErrStale},
		{10, 10, 0, greatest, api.ErrStale},
		{10, 10, 8, greatest, api.ErrStale},
		{10, 10, 0, 10, api.OK},
		{10, 10, 0, 11, api.ErrStale},
		{10, 10, 10, 0, api.OK},
		{10, 10, 11, 0, api.ErrStale},
		{10, 10, greatest, 0, api.ErrStale},
		{10, 10, greatest - 3, 5, api.ErrStale},
		{greatest, 0, greatest, greatest, api.OK},
		{greatest, 0, greatest, 1, api.OK},
		{greatest, 0, 5, 6, api.ErrStale},
		{greatest - 1, 0, greatest, 1, api.OK},
		{greatest - 1, 0, greatest, 0, api.ErrStale},
		{0, greatest, greatest, greatest, api.OK},
		{0, greatest, 0, greatest, api.OK},
		{0, greatest, 6, 5, api.ErrStale},
		{0, greatest - 1, 1, greatest, api.OK},
		{0, greatest - 1, 0, greatest, api.ErrStale},
	} {
		if s := stamp(c.ahead, c.behind, -1, false); c.err == api.OK {
			expectTaken(t, s, c.t, c.now)
		} else {
			expectRefused(t, s, c.t, c.now, c.err)
		}
	}
}

// Whatever is wrong with a Stamp, it is wrong of fresh and of stale timestamps.
func TestTakeOfInvalidStamps(t *testing.T) {
	for _, free := range []bool{false, true} {
		for _, bad := range noTimes {
			stamps := []api.Stamp{stamp(bad, 100, 50, free), stamp(10, bad, 50, free), stamp(bad, bad, bad, free)}
			if bad != -1 {
				stamps = append(stamps, stamp(10, 100, bad, free))
			}
			for _, s := range stamps {
				for _, at := range []int{60, 50, 40, 0, 71, greatest} {
					expectRefused(t, s, at, 60, api.ErrArg)
				}
			}
		}
	}
	expectRefused(t, stamp(10, 100, -2, false), 60, 60, api.ErrArg)
	expectTaken(t, stamp(10, 100, -1, false), 60, 60)
}

func TestTakeOfWhatIsNoTime(t *testing.T) {
	for _, free := range []bool{false, true} {
		for _, bad := range noTimes {
			for _, last := range []int{-1, 0, 50, greatest} {
				s := stamp(10, 100, last, free)
				for _, other := range numbers {
					expectRefused(t, s, bad, other, api.ErrArg)
					expectRefused(t, s, other, bad, api.ErrArg)
				}
			}
			expectRefused(t, stamp(greatest, greatest, -1, free), bad, 60, api.ErrArg)
			expectRefused(t, stamp(greatest, greatest, -1, free), 60, bad, api.ErrArg)
		}
	}
}

func TestTakeOfSmallNumbers(t *testing.T) {
	for code := range 6 * 4 * 4 * 8 * 8 {
		last, ahead, behind := code%6-1, code/6%4, code/24%4
		at, now := code/96%8, code/768
		for _, free := range []bool{false, true} {
			s := stamp(ahead, behind, last, free)
			want, err := taken(s, at, now)
			expectTake(t, s, at, now, want, err)
		}
	}
}

func TestTakeOfNumbersAtTheEnds(t *testing.T) {
	ends := []int{math.MinInt, -2, -1, 0, 1, greatest - 1, greatest, greatest + 1, math.MaxInt}
	n := len(ends)
	for code := range n * n * n * n * n {
		ahead, behind, last := ends[code%n], ends[code/n%n], ends[code/n/n%n]
		at, now := ends[code/n/n/n%n], ends[code/n/n/n/n]
		for _, free := range []bool{false, true} {
			s := stamp(ahead, behind, last, free)
			want, err := taken(s, at, now)
			expectTake(t, s, at, now, want, err)
		}
	}
}

func expectRelease(t *testing.T, s api.Stamp) {
	t.Helper()
	want := stamp(s.Ahead, s.Behind, s.Last, true)
	if have := Release(s); have != want {
		t.Errorf("Release(%+v): %+v, want %+v", s, have, want)
	}
}

func TestRelease(t *testing.T) {
	for i := range numbers {
		ahead, behind, last := numbers[i], numbers[(i+3)%len(numbers)], numbers[(i+8)%len(numbers)]
		expectRelease(t, stamp(ahead, behind, last, false))
		expectRelease(t, stamp(ahead, behind, last, true))
	}
	expectRelease(t, api.Stamp{})
}

// Release lets one timestamp be less than Last, and that is the new Last.
func TestReleaseLastsForOneTimestamp(t *testing.T) {
	s := Release(stamp(10, 100, 50, false))
	s, err := Take(s, 40, 60)
	if err != api.OK {
		t.Fatalf("Take: %d", err)
	}
	expectRefused(t, s, 39, 60, api.ErrStale)
	expectRefused(t, s, 40, 60, api.ErrStale)
	expectTaken(t, s, 41, 60)
}

// A greater timestamp uses up a Release too.
func TestReleaseBeforeAGreaterTimestamp(t *testing.T) {
	s, err := Take(Release(stamp(10, 100, 50, false)), 55, 60)
	if err != api.OK {
		t.Fatalf("Take: %d", err)
	}
	expectRefused(t, s, 40, 60, api.ErrStale)
	expectRefused(t, s, 55, 60, api.ErrStale)
}

func TestReleaseLeavesTheWindow(t *testing.T) {
	s := Release(stamp(10, 100, 550, false))
	expectRefused(t, s, 611, 600, api.ErrStale)
	expectRefused(t, s, 499, 600, api.ErrStale)
	expectTaken(t, s, 610, 600)
	expectTaken(t, s, 500, 600)
}

// P11.3

func TestLater(t *testing.T) {
	for _, c := range [][3]int{
		{0, 0, 0}, {3, 4, 7}, {1 << 31, 1<<31 - 2, greatest}, {1<<31 - 1, 1<<31 - 1, greatest},
		{0, greatest, greatest}, {greatest, 0, greatest}, {1, greatest - 1, greatest}, {greatest - 1, 1, greatest},
	} {
		if n, err := Later(c[0], c[1]); n != c[2] || err != api.OK {
			t.Errorf("Later(%d, %d): %d %d, want %d", c[0], c[1], n, err, c[2])
		}
	}
}

func TestLaterOfWhatIsNoTime(t *testing.T) {
	for _, c := range [][2]int{
		{greatest, 1}, {greatest, greatest}, {greatest - 1, 2}, {1 << 31, 1<<31 - 1},
		{-1, 0}, {-1, 1}, {-1, 5}, {-1, greatest}, {-1, greatest + 1}, {-greatest, greatest}, {-1, -1},
		{greatest + 1, 0}, {greatest + 1, -1}, {greatest + 1, -greatest}, {greatest + 2, -5}, {1 << 32, 1 << 32},
		{math.MaxInt, 0}, {math.MaxInt, 1}, {math.MaxInt, math.MaxInt}, {math.MaxInt, math.MinInt},
		{math.MaxInt, math.MinInt + 1}, {math.MinInt, 0}, {math.MinInt, -1}, {math.MinInt, math.MinInt},
		{math.MinInt, math.MinInt + 7}, {math.MinInt, greatest}, {1 << 62, 1 << 62}, {-1 << 62, 1<<62 + 9},
		{math.MaxInt, greatest}, {math.MaxInt - greatest, greatest},
	} {
		for _, d := range [][2]int{c, {c[1], c[0]}} {
			if n, err := Later(d[0], d[1]); n != 0 || err != api.ErrRange {
				t.Errorf("Later(%d, %d): %d %d, want ErrRange", d[0], d[1], n, err)
			}
		}
	}
}

func TestLaterOfAllNumbers(t *testing.T) {
	for _, a := range numbers {
		for _, b := range numbers {
			want, wantErr := 0, api.ErrRange
			if sumIsTime(a, 0) && sumIsTime(b, 0) && sumIsTime(a, b) {
				want, wantErr = int(sum(a, b).Int64()), api.OK
			}
			if n, err := Later(a, b); n != want || err != wantErr {
				t.Errorf("Later(%d, %d): %d %d, want %d %d", a, b, n, err, want, wantErr)
			}
		}
	}
}

// P11.4

// draw returns a function whose results from 0 to below n look random.
func draw(seed uint64) func(n int) int {
	return func(n int) int {
		seed = seed*6364136223846793005 + 1442695040888963407
		return int(seed>>33) % n
	}
}

// near returns a time close to now, and now and then one that is none.
func near(roll func(n int) int, now int) int {
	if roll(20) == 0 {
		return numbers[roll(len(numbers))]
	}
	return now - 15 + roll(30)
}

// between returns a Stamp to begin with, and a time for its clock at which the
// times soon end, now and then.
func between(t *testing.T, roll func(n int) int) (api.Stamp, int) {
	s, err := New(roll(10), roll(10))
	if err != api.OK {
		t.Fatalf("New: %d", err)
	}
	return s, []int{0, 1000, 1 << 31, greatest - 300}[roll(4)]
}

func TestAcceptedTimestampsRise(t *testing.T) {
	releases, accepted, rejected := 0, 0, 0
	for seed := range 300 {
		roll := draw(uint64(seed))
		s, now := between(t, roll)
		last := -1
		for range 300 {
			if roll(15) == 0 {
				s, last = Release(s), -1
				releases++
			}
			now = min(now+roll(3), greatest)
			at := near(roll, now)
			next, err := Take(s, at, now)
			if err != api.OK {
				rejected++
				continue
			}
			accepted++
			if at <= last || at > now+s.Ahead || at < now-s.Behind {
				t.Fatalf("seed %d: %d was accepted after %d by %+v at %d", seed, at, last, s, now)
			}
			s, last = next, at
		}
	}
	if releases < 1000 || accepted < 10000 || rejected < 10000 {
		t.Errorf("%d releases, %d accepted, %d rejected", releases, accepted, rejected)
	}
}

// What was accepted is rejected from then on, at whatever time it comes again.
func TestNoTimestampIsAcceptedTwice(t *testing.T) {
	s, err := New(20, 20)
	if err != api.OK {
		t.Fatalf("New: %d", err)
	}
	var old []int
	for now := 100; now < 400; now += 3 {
		if s, err = Take(s, now-5, now); err != api.OK {
			t.Fatalf("Take(%d): %d", now-5, err)
		}
		old = append(old, now-5)
		for _, at := range old {
			for _, clock := range []int{at, now, now + 10, max(0, at-20), at + 20} {
				expectRefused(t, s, at, clock, api.ErrStale)
			}
		}
	}
}

// call is a timestamp that was accepted, and whether a Release came before it.
type call struct {
	at, now  int
	released bool
}

// accepted gives s timestamps of which many are rejected; it returns the others,
// and the Stamp at the end.
func accepted(t *testing.T, s api.Stamp, now int, roll func(n int) int) ([]call, api.Stamp) {
	var calls []call
	released := false
	for range 200 {
		if roll(10) == 0 {
			s, released = Release(s), true
		}
		now = min(now+roll(3), greatest)
		at := near(roll, now)
		next, err := Take(s, at, now)
		if err == api.OK {
			calls = append(calls, call{at, now, released})
			s, released = next, false
		} else if next != (api.Stamp{}) {
			t.Fatalf("Take(%+v, %d, %d): %+v beside error %d", s, at, now, next, err)
		}
	}
	s.Free = false
	return calls, s
}

// A Stamp from which timestamps were rejected is as one that was never given
// them.
func TestRejectedTimestampsChangeNothing(t *testing.T) {
	for seed := range 100 {
		roll := draw(uint64(seed + 1000))
		s, now := between(t, roll)
		calls, end := accepted(t, s, now, roll)
		for _, c := range calls {
			if c.released {
				s = Release(s)
			}
			expectTaken(t, s, c.at, c.now)
			s, _ = Take(s, c.at, c.now)
		}
		if s != end || len(calls) == 0 {
			t.Fatalf("seed %d: %+v, want %+v after %d timestamps", seed, s, end, len(calls))
		}
	}
}

// A rejected timestamp does not use up a Release.
func TestRejectedTimestampsLeaveARelease(t *testing.T) {
	s := Release(stamp(10, 100, 550, false))
	expectRefused(t, s, 611, 600, api.ErrStale)
	expectRefused(t, s, 499, 600, api.ErrStale)
	expectRefused(t, s, -1, 600, api.ErrArg)
	expectTaken(t, s, 520, 600)
}

// R5: nothing is kept between calls, so Stamps do not affect one another.
func TestStampsAreApart(t *testing.T) {
	one, other := stamp(10, 100, -1, false), stamp(10, 100, -1, false)
	one, err := Take(one, 60, 60)
	if err != api.OK {
		t.Fatalf("Take: %d", err)
	}
	expectTaken(t, other, 60, 60)
	expectTaken(t, other, 50, 60)
	Release(one)
	expectRefused(t, one, 60, 60, api.ErrStale)
	expectTaken(t, stamp(0, 0, -1, false), 60, 60)
	expectTaken(t, stamp(10, 100, -1, false), 50, 60)
}
