package link

import (
	"bytes"
	"math"
	"math/big"
	"slices"
	"strconv"
	"testing"

	"lineside/api"
)

// greatest is the greatest time.
const greatest = 4294967294

// longest is the greatest Period and Quiet.
const longest = 1048576

// latest is the greatest Due.
const latest = 8589934592

// The rules of the chapter written anew, on integers of any size and without a
// search. They know nothing of package link.

// between reports whether n is from least to most.
func between(n, least, most int) bool {
	b := big.NewInt(int64(n))
	return b.Cmp(big.NewInt(int64(least))) >= 0 && b.Cmp(big.NewInt(int64(most))) <= 0
}

func timely(t int) bool { return between(t, 0, greatest) }

// after reports whether now is greater than a + b.
func after(now, a, b int) bool {
	sum := new(big.Int).Add(big.NewInt(int64(a)), big.NewInt(int64(b)))
	return big.NewInt(int64(now)).Cmp(sum) > 0
}

func valid(l api.Link) bool {
	ok := between(l.Period, 1, longest) && between(l.Most, 0, 20) && between(l.Quiet, 1, longest) &&
		timely(l.Heard) && len(l.Waits) <= 8
	for i, w := range l.Waits {
		ok = ok && timely(w.T) && between(w.Due, 0, latest) && between(w.Tries, 0, l.Most) &&
			between(len(w.Body), 1, 1023)
		for _, earlier := range l.Waits[:i] {
			ok = ok && earlier.T < w.T
		}
	}
	return ok
}

// result is what a function of the package returns, as far as it does.
type result struct {
	l      api.Link
	bodies [][]byte
	lost   bool
	err    api.Errno
}

// without returns l with all of its Waits but the one whose T is t.
func without(l api.Link, t int) api.Link {
	var kept []api.Wait
	for _, w := range l.Waits {
		if w.T != t {
			kept = append(kept, w)
		}
	}
	l.Waits = kept
	return l
}

func wantSent(l api.Link, t, now int, body []byte) result {
	switch {
	case !valid(l) || !timely(t) || !timely(now) || !between(len(body), 1, 1023):
		return result{err: 1}
	case len(without(l, t).Waits) < len(l.Waits):
		return result{err: 5}
	case len(l.Waits) == 8:
		return result{err: 3}
	}
	waits := append(slices.Clone(l.Waits), api.Wait{T: t, Due: now + l.Period, Body: body})
	slices.SortFunc(waits, func(a, b api.Wait) int { return a.T - b.T })
	l.Waits = waits
	return result{l: l}
}

func wantAcked(l api.Link, t int) result {
	switch {
	case !valid(l):
		return result{err: 1}
	case len(without(l, t).Waits) == len(l.Waits):
		return result{err: 4}
	}
	return result{l: without(l, t)}
}

func wantHeard(l api.Link, now int) result {
	if !valid(l) || !timely(now) {
		return result{err: 1}
	}
	if now > l.Heard {
		l.Heard = now
	}
	return result{l: l}
}

func wantTick(l api.Link, now int) result {
	if !valid(l) || !timely(now) {
		return result{err: 1}
	}
	lost := after(now, l.Heard, l.Quiet)
	next := l
	next.Waits = nil
	var bodies [][]byte
	for _, w := range l.Waits {
		if w.Due <= now {
			lost = lost || w.Tries == l.Most
			bodies = append(bodies, w.Body)
			w.Tries, w.Due = w.Tries+1, now+l.Period
		}
		next.Waits = append(next.Waits, w)
	}
	if lost {
		return result{l: l, lost: true}
	}
	return result{l: next, bodies: bodies}
}

// Calls, their results, and what they share.

func sameWait(a, b api.Wait) bool {
	return a.T == b.T && a.Due == b.Due && a.Tries == b.Tries && bytes.Equal(a.Body, b.Body)
}

func sameLink(a, b api.Link) bool {
	return slices.EqualFunc(a.Waits, b.Waits, sameWait) && a.Period == b.Period && a.Most == b.Most &&
		a.Quiet == b.Quiet && a.Heard == b.Heard
}

func sameResult(a, b result) bool {
	return sameLink(a.l, b.l) && slices.EqualFunc(a.bodies, b.bodies, bytes.Equal) && a.lost == b.lost && a.err == b.err
}

// roomyBody returns a copy of a body with room behind it, which holds bytes.
func roomyBody(body []byte) []byte {
	b := make([]byte, len(body)+4)
	copy(b[copy(b, body):], "room")
	return b[:len(body)]
}

// roomy returns a copy of l that shares nothing with it, with room behind its
// Waits, which holds Waits, and behind their bodies.
func roomy(l api.Link) api.Link {
	waits := make([]api.Wait, 0, len(l.Waits)+2)
	for _, w := range l.Waits {
		w.Body = roomyBody(w.Body)
		waits = append(waits, w)
	}
	for range 2 {
		waits = append(waits, api.Wait{T: 77, Due: 78, Tries: 79, Body: roomyBody([]byte("behind"))})
	}
	l.Waits = waits[:len(l.Waits)]
	return l
}

// wholeBody returns a body with the room behind it.
func wholeBody(body []byte) []byte { return body[:cap(body)] }

// whole returns l with the room behind its Waits and their bodies. The Waits are
// copied, their bodies are not.
func whole(l api.Link) api.Link {
	waits := slices.Clone(l.Waits[:cap(l.Waits)])
	for i, w := range waits {
		waits[i].Body = wholeBody(w.Body)
	}
	l.Waits = waits
	return l
}

// bodiesOf returns the bodies of l and of the Waits behind its own, each with
// the room behind it.
func bodiesOf(l api.Link) [][]byte {
	var all [][]byte
	for _, w := range whole(l).Waits {
		all = append(all, w.Body)
	}
	return all
}

// shareBytes reports whether two of these share bytes. It writes over all of
// them.
func shareBytes(all [][]byte) bool {
	for i, b := range all {
		for j := range b {
			b[j] = byte(i)
		}
	}
	for i, b := range all {
		if bytes.Count(b, []byte{byte(i)}) != len(b) {
			return true
		}
	}
	return false
}

// shareWaits reports whether a and b share Waits. It writes over those of a.
func shareWaits(a, b api.Link) bool {
	before := whole(b)
	for i := range a.Waits[:cap(a.Waits)] {
		a.Waits[:cap(a.Waits)][i] = api.Wait{T: -7}
	}
	return !sameLink(whole(b), before)
}

// checked checks the result of a call, that the call leaves what it is given as
// it was, and that nothing of all this shares memory.
func checked(t *testing.T, what string, l api.Link, body []byte, want result, call func(l api.Link, body []byte) result) {
	t.Helper()
	if have := call(l, body); !sameResult(have, want) {
		t.Fatalf("%s of %+v: %+v, want %+v", what, l, have, want)
	}
	given, givenBody := roomy(l), roomyBody(body)
	have := call(given, givenBody)
	if !sameResult(have, want) || !sameLink(whole(given), whole(roomy(l))) || !bytes.Equal(wholeBody(givenBody), wholeBody(roomyBody(body))) {
		t.Fatalf("%s of %+v changes what it is given: %+v %v", what, l, given, givenBody)
	}
	all := slices.Concat(bodiesOf(given), bodiesOf(have.l), [][]byte{wholeBody(givenBody)})
	for _, b := range have.bodies {
		all = append(all, wholeBody(b))
	}
	if shareBytes(all) || shareWaits(have.l, given) {
		t.Fatalf("%s of %+v: what it is given and its results share memory", what, l)
	}
}

func expectSent(t *testing.T, l api.Link, at, now int, body []byte, want result) api.Link {
	t.Helper()
	what := "Sent " + strconv.Itoa(at) + " at " + strconv.Itoa(now)
	call := func(l api.Link, body []byte) result {
		next, err := Sent(l, at, now, body)
		return result{l: next, err: err}
	}
	checked(t, what, l, body, want, call)
	return call(l, body).l
}

func expectAcked(t *testing.T, l api.Link, at int, want result) api.Link {
	t.Helper()
	call := func(l api.Link, _ []byte) result {
		next, err := Acked(l, at)
		return result{l: next, err: err}
	}
	checked(t, "Acked "+strconv.Itoa(at), l, nil, want, call)
	return call(l, nil).l
}

func expectHeard(t *testing.T, l api.Link, now int, want result) api.Link {
	t.Helper()
	call := func(l api.Link, _ []byte) result {
		next, err := Heard(l, now)
		return result{l: next, err: err}
	}
	checked(t, "Heard at "+strconv.Itoa(now), l, nil, want, call)
	return call(l, nil).l
}

func expectTick(t *testing.T, l api.Link, now int, want result) api.Link {
	t.Helper()
	call := func(l api.Link, _ []byte) result {
		next, bodies, lost, err := Tick(l, now)
		return result{next, bodies, lost, err}
	}
	checked(t, "Tick at "+strconv.Itoa(now), l, nil, want, call)
	return call(l, nil).l
}

// expectCalls holds all calls against the chapter.
func expectCalls(t *testing.T, l api.Link, at, now int, body []byte) {
	t.Helper()
	if May(l) != valid(l) {
		t.Fatalf("May(%+v): %v", l, !valid(l))
	}
	expectSent(t, l, at, now, body, wantSent(l, at, now, body))
	expectAcked(t, l, at, wantAcked(l, at))
	expectHeard(t, l, now, wantHeard(l, now))
	expectTick(t, l, now, wantTick(l, now))
}

// expectValid checks that l may be, and what the calls make of it.
func expectValid(t *testing.T, l api.Link) {
	t.Helper()
	if !May(l) || !valid(l) {
		t.Fatalf("May(%+v): %v", l, May(l))
	}
	for _, now := range []int{0, 60, greatest} {
		expectCalls(t, l, 1000, now, []byte("b"))
	}
}

// expectInvalid checks that l may not be, and that all calls say so first,
// whatever else is wrong.
func expectInvalid(t *testing.T, l api.Link) {
	t.Helper()
	if May(l) || valid(l) {
		t.Fatalf("May(%+v): %v", l, May(l))
	}
	for _, at := range []int{10, 1000, -1, greatest + 1} {
		for _, now := range []int{0, 60, greatest, -1, greatest + 1} {
			wrong := result{err: api.ErrArg}
			expectSent(t, l, at, now, []byte("b"), wrong)
			expectSent(t, l, at, now, nil, wrong)
			expectAcked(t, l, at, wrong)
			expectHeard(t, l, now, wrong)
			expectTick(t, l, now, wrong)
		}
	}
}

// Links to begin with.

// wait writes a Wait as the chapter lists its fields.
func wait(t, due, tries int, body string) api.Wait {
	return api.Wait{T: t, Due: due, Tries: tries, Body: []byte(body)}
}

// linked returns a Link with Period 10, Most 2, Quiet 50, Heard 0 and Waits.
func linked(waits ...api.Wait) api.Link {
	return api.Link{Period: 10, Most: 2, Quiet: 50, Waits: waits}
}

// many returns n Waits with the T 10, 20 and so on, which are due at 60.
func many(n int) []api.Wait {
	var waits []api.Wait
	for i := range n {
		waits = append(waits, wait(10*i+10, 60, i%3, "body "+strconv.Itoa(i)))
	}
	return waits
}

// times are times, noTimes are integers that are none. Cut to 32 bits, some of
// those would be.
var times = []int{0, 1, 59, 60, 61, 1<<31 - 1, 1 << 31, greatest - 1, greatest}

var noTimes = []int{
	math.MinInt, math.MinInt + 60, -1 << 62, -1<<32 + 60, -1 << 32, -greatest, -60, -2, -1,
	greatest + 1, greatest + 2, 1<<32 + 60, 1 << 33, 1 << 62, math.MaxInt - 1, math.MaxInt,
}

// limits are the numbers that a field may be.
type limits struct{ least, most int }

// inside returns numbers that the field may be.
func (m limits) inside() []int {
	return []int{m.least, m.least + 1, (m.least + m.most) / 2, m.most - 1, m.most}
}

// outside returns numbers that the field may not be. Cut to 32 or 34 bits, some
// of them would be inside.
func (m limits) outside() []int {
	return []int{
		math.MinInt, math.MinInt + m.least + 1, -1 << 62, -1<<34 + m.least, -1<<32 - 1, -m.most - 1, m.least - 2, m.least - 1,
		m.most + 1, m.most + 2, 2*m.most + 2, 1<<34 + m.least, 1<<34 + m.most, 1 << 62, math.MaxInt,
	}
}

var (
	periods = limits{1, longest}
	mosts   = limits{0, 20}
	clocks  = limits{0, greatest}
	dues    = limits{0, latest}
)

// The limits and errors of the chapter are those of api.

func TestLimits(t *testing.T) {
	have := []int{api.MaxTime, api.MaxPeriod, api.MaxTries, api.MaxWaits, api.MaxBytes,
		int(api.ErrArg), int(api.ErrFull), int(api.ErrNone), int(api.ErrThere)}
	if want := []int{greatest, longest, 20, 8, 1023, 1, 3, 4, 5}; !slices.Equal(have, want) {
		t.Errorf("%v, want %v", have, want)
	}
}

// The chapter's examples.

func TestExamples(t *testing.T) {
	l, err := New(10, 2, 50, 0)
	if want := linked(); !sameLink(l, want) || err != api.OK {
		t.Fatalf("New(10, 2, 50, 0): %+v %d", l, err)
	}
	x := []byte("x")
	sent := expectSent(t, l, 5, 0, x, result{l: linked(wait(5, 10, 0, "x"))})
	l = expectTick(t, sent, 9, result{l: linked(wait(5, 10, 0, "x"))})
	l = expectTick(t, l, 10, result{l: linked(wait(5, 20, 1, "x")), bodies: [][]byte{x}})
	l = expectTick(t, l, 20, result{l: linked(wait(5, 30, 2, "x")), bodies: [][]byte{x}})
	expectTick(t, l, 30, result{l: l, lost: true})
	for _, l := range []api.Link{sent, l} {
		l = expectAcked(t, l, 5, result{l: linked()})
		l = expectTick(t, l, 30, result{l: linked()})
		expectTick(t, l, 51, result{l: linked(), lost: true})
	}
}

// P12.1

func expectNew(t *testing.T, period, most, quiet, now int) {
	t.Helper()
	l, err := New(period, most, quiet, now)
	want, wantErr := api.Link{Period: period, Most: most, Quiet: quiet, Heard: now}, api.OK
	if !valid(want) {
		want, wantErr = api.Link{}, api.ErrArg
	}
	if !sameLink(l, want) || err != wantErr {
		t.Fatalf("New(%d, %d, %d, %d): %+v %d, want %d", period, most, quiet, now, l, err, wantErr)
	}
	if May(l) != (err == api.OK) {
		t.Fatalf("May(%+v) beside error %d: %v", l, err, May(l))
	}
}

func TestNew(t *testing.T) {
	for _, period := range periods.inside() {
		for _, most := range mosts.inside() {
			for _, quiet := range periods.inside() {
				for _, now := range slices.Concat(clocks.inside(), times) {
					if _, err := New(period, most, quiet, now); err != api.OK {
						t.Fatalf("New(%d, %d, %d, %d): %d", period, most, quiet, now, err)
					}
					expectNew(t, period, most, quiet, now)
				}
			}
		}
	}
}

func expectNoNew(t *testing.T, period, most, quiet, now int) {
	t.Helper()
	if l, err := New(period, most, quiet, now); !sameLink(l, api.Link{}) || err != api.ErrArg {
		t.Fatalf("New(%d, %d, %d, %d): %+v %d, want ErrArg", period, most, quiet, now, l, err)
	}
}

func TestNewOfANumberThatMayNotBe(t *testing.T) {
	for _, bad := range periods.outside() {
		expectNoNew(t, bad, 2, 50, 60)
		expectNoNew(t, 10, 2, bad, 60)
	}
	for _, bad := range mosts.outside() {
		expectNoNew(t, 10, bad, 50, 60)
	}
	for _, bad := range slices.Concat(clocks.outside(), noTimes) {
		expectNoNew(t, 10, 2, 50, bad)
	}
	expectNoNew(t, 0, 2, 50, 60)
	expectNoNew(t, 10, 2, 0, 60)
}

// Each number is looked at, also when the others are wrong.
func TestNewOfAllNumbers(t *testing.T) {
	ends := []int{math.MinInt, -1, 0, 1, 20, 21, longest, longest + 1, greatest, greatest + 1, math.MaxInt}
	for _, period := range ends {
		for _, most := range ends {
			for _, quiet := range ends {
				for _, now := range ends {
					expectNew(t, period, most, quiet, now)
				}
			}
		}
	}
}

func TestMayOfPeriodAndQuiet(t *testing.T) {
	for _, waits := range [][]api.Wait{nil, {}, many(1), many(8)} {
		l, m := linked(waits...), linked(waits...)
		for _, n := range periods.inside() {
			l.Period, m.Quiet = n, n
			expectValid(t, l)
			expectValid(t, m)
		}
		for _, n := range periods.outside() {
			l.Period, m.Quiet = n, n
			expectInvalid(t, l)
			expectInvalid(t, m)
		}
	}
	expectInvalid(t, api.Link{})
}

func TestMayOfHeard(t *testing.T) {
	for _, waits := range [][]api.Wait{nil, {}, many(1), many(8)} {
		l := linked(waits...)
		for _, l.Heard = range slices.Concat(clocks.inside(), times) {
			expectValid(t, l)
		}
		for _, l.Heard = range slices.Concat(clocks.outside(), noTimes) {
			expectInvalid(t, l)
		}
	}
}

func TestMayOfMost(t *testing.T) {
	l := linked()
	for _, l.Most = range mosts.inside() {
		expectValid(t, l)
	}
	for _, l.Most = range mosts.outside() {
		expectInvalid(t, l)
	}
	l = linked(wait(10, 60, 0, "a"))
	for l.Most = range 21 {
		expectValid(t, l)
	}
	for _, l.Most = range mosts.outside() {
		expectInvalid(t, l)
	}
}

func TestMayOfTries(t *testing.T) {
	for most := range 21 {
		for i := range 3 {
			l := linked(many(3)...)
			l.Most = most
			for j := range l.Waits {
				l.Waits[j].Tries = most
			}
			tries := &l.Waits[i].Tries
			for *tries = range most + 1 {
				expectValid(t, l)
			}
			for _, *tries = range []int{math.MinInt, -1 << 32, -most - 1, -1, most + 1, most + 2, 21, 1<<32 + most, math.MaxInt} {
				expectInvalid(t, l)
			}
		}
	}
}

func TestMayOfNumbersOfWaits(t *testing.T) {
	for n := range 9 {
		expectValid(t, linked(many(n)...))
	}
	for _, n := range []int{9, 10, 16, 100, 264} {
		expectInvalid(t, linked(many(n)...))
	}
}

func TestMayOfDue(t *testing.T) {
	for _, n := range []int{1, 2, 8} {
		for i := range n {
			l := linked(many(n)...)
			for _, l.Waits[i].Due = range append(dues.inside(), greatest, greatest+1) {
				expectValid(t, l)
			}
			for _, l.Waits[i].Due = range dues.outside() {
				expectInvalid(t, l)
			}
		}
	}
}

func TestMayOfBodies(t *testing.T) {
	for _, n := range []int{1, 2, 8} {
		for i := range n {
			l := linked(many(n)...)
			for _, size := range []int{1, 2, 255, 256, 1022, 1023} {
				l.Waits[i].Body = bytes.Repeat([]byte{7}, size)
				expectValid(t, l)
			}
			for _, size := range []int{0, 1024, 1025, 1279, 2000} {
				l.Waits[i].Body = bytes.Repeat([]byte{7}, size)
				expectInvalid(t, l)
			}
			l.Waits[i].Body = nil
			expectInvalid(t, l)
		}
	}
}

// timed returns Waits with these T.
func timed(ts ...int) []api.Wait {
	var waits []api.Wait
	for _, t := range ts {
		waits = append(waits, wait(t, 60, 0, strconv.Itoa(t)))
	}
	return waits
}

func TestMayOfT(t *testing.T) {
	for _, ts := range [][]int{
		{0}, {1}, {greatest - 1}, {greatest}, {0, 1}, {0, greatest}, {greatest - 1, greatest}, {1<<31 - 1, 1 << 31},
		{0, 1, 2, 3, 4, 5, 6, 7}, {0, 1, 1 << 31, greatest}, {5, 60, 61, 1 << 20, 1 << 30, 1 << 31, 1<<32 - 3, greatest},
	} {
		expectValid(t, linked(timed(ts...)...))
	}
	for _, bad := range noTimes {
		expectInvalid(t, linked(timed(bad)...))
		expectInvalid(t, linked(timed(bad, 60)...))
		expectInvalid(t, linked(timed(60, bad)...))
		expectInvalid(t, linked(timed(10, 20, bad, 30)...))
	}
	expectInvalid(t, linked(timed(-2, -1)...))
	expectInvalid(t, linked(timed(greatest+1, greatest+2)...))
}

func TestMayOfTThatDoNotRise(t *testing.T) {
	for _, ts := range [][]int{
		{0, 0}, {5, 5}, {greatest, greatest}, {1, 0}, {6, 5}, {greatest, 0}, {greatest, greatest - 1}, {1 << 31, 1<<31 - 1},
		{1, 1, 2}, {1, 2, 2}, {1, 2, 1}, {1, 3, 2}, {2, 1, 3}, {2, 3, 1}, {3, 1, 2}, {3, 2, 1}, {1, 1, 1},
		{0, 1, 2, 3, 4, 5, 6, 6}, {0, 1, 2, 3, 4, 5, 7, 6}, {0, 1, 2, 3, 4, 5, 6, 0},
	} {
		expectInvalid(t, linked(timed(ts...)...))
	}
	for i := range 8 {
		for j := range i {
			waits := many(8)
			waits[i].T = waits[j].T
			expectInvalid(t, linked(waits...))
			waits = many(8)
			waits[i], waits[j] = waits[j], waits[i]
			expectInvalid(t, linked(waits...))
		}
	}
}

// P12.2

func TestSent(t *testing.T) {
	empty := linked()
	expectSent(t, empty, 0, 0, []byte("a"), result{l: linked(wait(0, 10, 0, "a"))})
	expectSent(t, empty, greatest, 0, []byte("a"), result{l: linked(wait(greatest, 10, 0, "a"))})
	expectSent(t, empty, 7, greatest, []byte("a"), result{l: linked(wait(7, greatest+10, 0, "a"))})
	long := api.Link{Period: longest, Most: 20, Quiet: 1, Heard: greatest}
	want := long
	want.Waits = []api.Wait{wait(7, greatest+longest, 0, "a")}
	expectSent(t, long, 7, greatest, []byte("a"), result{l: want})
	for _, size := range []int{1, 2, 256, 1022, 1023} {
		body := bytes.Repeat([]byte("b"), size)
		expectSent(t, empty, 7, 60, body, result{l: linked(wait(7, 70, 0, string(body)))})
	}
}

// The clock and the timestamp are apart: neither is bound by the other, by
// Heard, or by what waits.
func TestSentAtAllTimes(t *testing.T) {
	for _, at := range times {
		for _, now := range times {
			for _, heard := range []int{0, 60, greatest} {
				l := linked(timed(58, 62)...)
				l.Heard = heard
				want := wantSent(l, at, now, []byte("a"))
				if want.err != api.OK {
					t.Fatalf("%d at %d: %d", at, now, want.err)
				}
				expectSent(t, l, at, now, []byte("a"), want)
			}
		}
	}
}

func TestSentInOrder(t *testing.T) {
	a, b, c := wait(10, 31, 2, "a"), wait(20, 11, 1, "bb"), wait(30, 21, 0, "ccc")
	for at, place := range map[int]int{0: 0, 9: 0, 11: 1, 19: 1, 21: 2, 29: 2, 31: 3, greatest: 3} {
		x := wait(at, 51, 0, "x")
		want := [][]api.Wait{{x, a, b, c}, {a, x, b, c}, {a, b, x, c}, {a, b, c, x}}[place]
		expectSent(t, linked(a, b, c), at, 41, []byte("x"), result{l: linked(want...)})
	}
}

// At every number of Waits the new one comes to its place.
func TestSentIntoEveryGap(t *testing.T) {
	for n := range 8 {
		for gap := range n + 1 {
			l, body := linked(many(n)...), []byte("new")
			want := linked(slices.Insert(many(n), gap, wait(10*gap+5, 70, 0, "new"))...)
			expectSent(t, l, 10*gap+5, 60, body, result{l: want})
		}
	}
}

// permuted calls f with every order of list.
func permuted(list []int, n int, f func()) {
	if n <= 1 {
		f()
		return
	}
	for i := range n {
		list[i], list[n-1] = list[n-1], list[i]
		permuted(list, n-1, f)
		list[i], list[n-1] = list[n-1], list[i]
	}
}

// In whatever order messages are sent, they wait in that of their T.
func TestSentInEveryOrder(t *testing.T) {
	list := []int{1, 2, 3, 4, 5, 6, 7, 8}
	permuted(list, 8, func() {
		l := linked()
		for _, at := range list {
			l, _ = Sent(l, at, at, []byte{byte(at)})
		}
		for i, w := range l.Waits {
			if !sameWait(w, wait(i+1, i+11, 0, string(rune(i+1)))) {
				t.Fatalf("%v: %+v", list, l)
			}
		}
		if len(l.Waits) != 8 {
			t.Fatalf("%v: %+v", list, l)
		}
	})
}

func TestSentOfWhatMayNotBe(t *testing.T) {
	wrong := result{err: api.ErrArg}
	body := []byte("a")
	for _, n := range []int{0, 1, 3, 8} {
		l := linked(many(n)...)
		for _, bad := range noTimes {
			for _, other := range slices.Concat(times, noTimes, []int{10, 30}) {
				expectSent(t, l, bad, other, body, wrong)
				expectSent(t, l, other, bad, body, wrong)
			}
		}
		for _, size := range []int{0, 1024, 1025, 1279, 5000} {
			for _, at := range []int{5, 10, 15, 100} {
				expectSent(t, l, at, 60, bytes.Repeat(body, size), wrong)
			}
		}
		expectSent(t, l, 5, 60, nil, wrong)
		expectSent(t, l, 10, 60, nil, wrong)
	}
}

func TestSentOfWhatIsThere(t *testing.T) {
	for n := range 9 {
		for i := range n {
			for _, now := range times {
				expectSent(t, linked(many(n)...), 10*i+10, now, []byte("a"), result{err: api.ErrThere})
				expectSent(t, linked(many(n)...), 10*i+10, now, many(n)[i].Body, result{err: api.ErrThere})
			}
		}
	}
}

func TestSentIntoAFullLink(t *testing.T) {
	for _, at := range []int{0, 1, 9, 11, 15, 25, 45, 75, 79, 81, 85, greatest} {
		expectSent(t, linked(many(8)...), at, 60, []byte("a"), result{err: api.ErrFull})
		l := expectSent(t, linked(many(7)...), at, 60, []byte("a"), wantSent(linked(many(7)...), at, 60, []byte("a")))
		if len(l.Waits) != 8 || !May(l) {
			t.Errorf("%d: %+v", at, l)
		}
	}
}

// Every set of faults gives the error that is named first.
func TestSentErrorsInOrder(t *testing.T) {
	for set := range 64 {
		has := func(fault int) bool { return set>>fault&1 == 1 }
		l, at, now, body := linked(many(7)...), 75, 60, []byte("a")
		want := api.OK
		if has(5) {
			l, want = linked(many(8)...), api.ErrFull
		}
		if has(4) {
			at, want = 70, api.ErrThere
		}
		if has(3) {
			body, want = nil, api.ErrArg
		}
		if has(2) {
			now, want = -1, api.ErrArg
		}
		if has(1) {
			at, want = greatest+1, api.ErrArg
		}
		if has(0) {
			l.Period, want = 0, api.ErrArg
		}
		if want == api.OK {
			expectSent(t, l, at, now, body, wantSent(l, at, now, body))
		} else {
			expectSent(t, l, at, now, body, result{err: want})
		}
	}
}

func TestAcked(t *testing.T) {
	for n := range 9 {
		for i := range n {
			want := linked(slices.Delete(many(n), i, i+1)...)
			expectAcked(t, linked(many(n)...), 10*i+10, result{l: want})
		}
	}
	expectAcked(t, linked(timed(0, 5, greatest)...), 0, result{l: linked(timed(5, greatest)...)})
	expectAcked(t, linked(timed(0, 5, greatest)...), greatest, result{l: linked(timed(0, 5)...)})
}

// Acked has no timestamps that may not be: a Link has no Waits with them.
func TestAckedOfNoWait(t *testing.T) {
	none := result{err: api.ErrNone}
	for n := range 9 {
		l := linked(many(n)...)
		for _, at := range slices.Concat(times, noTimes) {
			if at != 60 || n < 6 {
				expectAcked(t, l, at, none)
			}
		}
		for i := range n {
			for _, at := range []int{10*i + 9, 10*i + 11, -10*i - 10, 1<<32 + 10*i + 10, -1<<32 + 10*i + 10} {
				expectAcked(t, l, at, none)
			}
			expectAcked(t, expectAcked(t, l, 10*i+10, wantAcked(l, 10*i+10)), 10*i+10, none)
		}
	}
}

func TestAckedErrorsInOrder(t *testing.T) {
	for _, n := range []int{0, 3, 8} {
		l := linked(many(n)...)
		l.Quiet = longest + 1
		for _, at := range []int{10, 15, -1, greatest + 1} {
			expectAcked(t, l, at, result{err: api.ErrArg})
		}
	}
	expectAcked(t, linked(many(9)...), 10, result{err: api.ErrArg})
	expectAcked(t, linked(many(9)...), 90, result{err: api.ErrArg})
	expectAcked(t, linked(timed(5, 5)...), 5, result{err: api.ErrArg})
	expectAcked(t, linked(timed(-1)...), -1, result{err: api.ErrArg})
}

// What was acknowledged may be sent anew, and makes room for another one.
func TestSentAfterAcked(t *testing.T) {
	for i := range 8 {
		l := linked(many(8)...)
		l = expectAcked(t, l, 10*i+10, wantAcked(l, 10*i+10))
		want := many(8)
		want[i] = wait(10*i+10, 310, 0, "new")
		expectSent(t, l, 10*i+10, 300, []byte("new"), result{l: linked(want...)})
	}
}

// P12.3

func TestHeard(t *testing.T) {
	for _, n := range []int{0, 3, 8} {
		for _, heard := range times {
			for _, now := range times {
				l, want := linked(many(n)...), linked(many(n)...)
				l.Heard, want.Heard = heard, max(heard, now)
				expectHeard(t, l, now, result{l: want})
			}
			for _, bad := range noTimes {
				l := linked(many(n)...)
				l.Heard = heard
				expectHeard(t, l, bad, result{err: api.ErrArg})
			}
		}
	}
}

func TestHeardNearHeard(t *testing.T) {
	for _, heard := range []int{1, 60, 1 << 31, greatest - 1} {
		for now, want := range map[int]int{heard - 1: heard, heard: heard, heard + 1: heard + 1} {
			l, after := linked(many(2)...), linked(many(2)...)
			l.Heard, after.Heard = heard, want
			expectHeard(t, l, now, result{l: after})
		}
	}
}

// P12.4

func TestTickOfWhatIsNoTime(t *testing.T) {
	for _, n := range []int{0, 1, 8} {
		for _, bad := range noTimes {
			expectTick(t, linked(many(n)...), bad, result{err: api.ErrArg})
		}
	}
}

func TestTickAtTheEndOfQuiet(t *testing.T) {
	for _, heard := range []int{0, 1, 60, 1 << 31, greatest - longest - 1} {
		for _, quiet := range periods.inside() {
			for _, waits := range [][]api.Wait{nil, {wait(5, latest, 0, "a")}, {wait(5, latest, 2, "a")}} {
				l := linked(waits...)
				l.Heard, l.Quiet = heard, quiet
				expectTick(t, l, heard, result{l: l})
				expectTick(t, l, heard+quiet-1, result{l: l})
				expectTick(t, l, heard+quiet, result{l: l})
				expectTick(t, l, heard+quiet+1, result{l: l, lost: true})
				expectTick(t, l, greatest, result{l: l, lost: heard+quiet < greatest})
			}
		}
	}
}

// A peer whose silence would end beyond the times is not lost by it; nor is one
// that was heard later than now.
func TestTickOfAPeerThatIsNotSilent(t *testing.T) {
	for _, c := range []struct {
		heard, quiet, now int
		lost              bool
	}{
		{greatest, 1, greatest, false}, {greatest - 1, 1, greatest, false}, {greatest - 2, 1, greatest, true},
		{greatest, longest, greatest, false}, {greatest - longest, longest, greatest, false},
		{greatest - longest - 1, longest, greatest, true}, {greatest, 1, 0, false}, {greatest, longest, 0, false},
		{60, 1, 0, false}, {60, 1, 59, false}, {0, 1, 0, false}, {0, 1, 1, false}, {0, 1, 2, true},
	} {
		l := linked()
		l.Heard, l.Quiet = c.heard, c.quiet
		expectTick(t, l, c.now, result{l: l, lost: c.lost})
	}
}

// loud returns l with a peer that is not silent at any time of these tests.
func loud(l api.Link) api.Link {
	l.Heard, l.Quiet = greatest, longest
	return l
}

func TestTickAtDue(t *testing.T) {
	for _, due := range []int{1, 2, 60, 1<<31 - 1, 1 << 31, greatest - 1} {
		for tries := range 2 {
			l := loud(linked(wait(5, due, tries, "a")))
			expectTick(t, l, 0, result{l: l})
			expectTick(t, l, due-1, result{l: l})
			for _, now := range []int{due, due + 1, greatest} {
				want := loud(linked(wait(5, now+10, tries+1, "a")))
				expectTick(t, l, now, result{l: want, bodies: [][]byte{[]byte("a")}})
			}
		}
		l := loud(linked(wait(5, due, 2, "a")))
		expectTick(t, l, due-1, result{l: l})
		expectTick(t, l, due, result{l: l, lost: true})
		expectTick(t, l, due+1, result{l: l, lost: true})
		expectTick(t, l, greatest, result{l: l, lost: true})
	}
}

// A message may be due at the first time, and at none.
func TestTickOfDueAtTheEnds(t *testing.T) {
	first := loud(linked(wait(5, 0, 0, "a")))
	expectTick(t, first, 0, result{l: loud(linked(wait(5, 10, 1, "a"))), bodies: [][]byte{[]byte("a")}})
	last := loud(linked(wait(5, greatest, 0, "a")))
	expectTick(t, last, greatest-1, result{l: last})
	expectTick(t, last, greatest, result{l: loud(linked(wait(5, greatest+10, 1, "a"))), bodies: [][]byte{[]byte("a")}})
	for _, due := range []int{greatest + 1, greatest + 2, 1<<32 + 5, latest} {
		for tries := range 3 {
			l := loud(linked(wait(5, due, tries, "a")))
			for _, now := range times {
				expectTick(t, l, now, result{l: l})
			}
		}
	}
	long := loud(linked(wait(5, greatest, 0, "a")))
	long.Period = longest
	want := loud(linked(wait(5, greatest+longest, 1, "a")))
	want.Period = longest
	expectTick(t, long, greatest, result{l: want, bodies: [][]byte{[]byte("a")}})
}

// Most says how often a message is sent again, and the peer is lost at the tick
// after the last time.
func TestTickUntilMost(t *testing.T) {
	for most := range 21 {
		l := loud(linked(wait(5, 10, 0, "a")))
		l.Most = most
		for i := range most {
			want := loud(linked(wait(5, 10*i+20, i+1, "a")))
			want.Most = most
			l = expectTick(t, l, 10*i+9, result{l: l})
			l = expectTick(t, l, 10*i+10, result{l: want, bodies: [][]byte{[]byte("a")}})
			l = expectTick(t, l, 10*i+10, result{l: l})
			l = expectTick(t, l, 10*i+11, result{l: l})
		}
		expectTick(t, l, 10*most+9, result{l: l})
		expectTick(t, l, 10*most+10, result{l: l, lost: true})
		expectTick(t, l, 10*most+500, result{l: l, lost: true})
	}
}

// A message that is sent again late is due again a whole Period later, and is
// sent again only once.
func TestTickLate(t *testing.T) {
	l := loud(linked(wait(5, 10, 0, "a")))
	l = expectTick(t, l, 47, result{l: loud(linked(wait(5, 57, 1, "a"))), bodies: [][]byte{[]byte("a")}})
	l = expectTick(t, l, 56, result{l: l})
	l = expectTick(t, l, 1000, result{l: loud(linked(wait(5, 1010, 2, "a"))), bodies: [][]byte{[]byte("a")}})
	l = expectTick(t, l, 47, result{l: l})
	expectTick(t, l, 1010, result{l: l, lost: true})
}

func TestTickOfSeveral(t *testing.T) {
	l := loud(linked(wait(1, 30, 0, "one"), wait(2, 31, 1, "two"), wait(3, 10, 1, "three"), wait(4, 30, 0, "three"), wait(5, 99, 2, "five")))
	want := loud(linked(wait(1, 40, 1, "one"), wait(2, 31, 1, "two"), wait(3, 40, 2, "three"), wait(4, 40, 1, "three"), wait(5, 99, 2, "five")))
	bodies := [][]byte{[]byte("one"), []byte("three"), []byte("three")}
	l = expectTick(t, l, 30, result{l: want, bodies: bodies})
	want = loud(linked(wait(1, 40, 1, "one"), wait(2, 41, 2, "two"), wait(3, 40, 2, "three"), wait(4, 40, 1, "three"), wait(5, 99, 2, "five")))
	l = expectTick(t, l, 31, result{l: want, bodies: [][]byte{[]byte("two")}})
	expectTick(t, l, 39, result{l: l})
	expectTick(t, l, 40, result{l: l, lost: true})
}

// Of eight messages each is due, or not, by itself.
func TestTickOfEverySetOfDue(t *testing.T) {
	for set := range 256 {
		l, want := loud(linked()), loud(linked())
		var bodies [][]byte
		for i := range 8 {
			body := "body " + strconv.Itoa(i)
			if set>>i&1 == 1 {
				l.Waits = append(l.Waits, wait(i, 60-i, i%2, body))
				want.Waits = append(want.Waits, wait(i, 70, i%2+1, body))
				bodies = append(bodies, []byte(body))
			} else {
				l.Waits = append(l.Waits, wait(i, 61+i, i%3, body))
				want.Waits = append(want.Waits, wait(i, 61+i, i%3, body))
			}
		}
		expectTick(t, l, 60, result{l: want, bodies: bodies})
	}
}

// One message that was sent often enough and is due loses the peer, wherever it
// stands; the others are left as they are.
func TestTickOfOneThatLosesThePeer(t *testing.T) {
	for i := range 8 {
		l := loud(linked())
		for j := range 8 {
			l.Waits = append(l.Waits, wait(j, 60, 1, "a"))
		}
		l.Waits[i] = wait(i, 60, 2, "a")
		expectTick(t, l, 59, result{l: l})
		expectTick(t, l, 60, result{l: l, lost: true})
		l.Waits[i] = wait(i, 61, 2, "a")
		want := wantTick(l, 60)
		if want.lost || len(want.bodies) != 7 {
			t.Fatalf("%+v", want)
		}
		expectTick(t, l, 60, want)
		expectTick(t, l, 61, result{l: l, lost: true})
	}
}

// A silent peer is lost whatever waits, and nothing is sent again.
func TestTickOfASilentPeerWithWaits(t *testing.T) {
	for _, tries := range []int{0, 1, 2} {
		for _, due := range []int{0, 50, 51, 52, latest} {
			l := linked(wait(5, due, tries, "a"), wait(6, 51, 0, "b"))
			expectTick(t, l, 51, result{l: l, lost: true})
			expectTick(t, l, 50, wantTick(l, 50))
		}
	}
}

// P12.1 to P12.4 over numbers that are drawn.

// draw returns a function whose results from 0 to below n look random.
func draw(seed uint64) func(n int) int {
	return func(n int) int {
		seed = seed*6364136223846793005 + 1442695040888963407
		return int(seed>>33) % n
	}
}

// pick returns one of list.
func pick(roll func(n int) int, list ...int) int { return list[roll(len(list))] }

// drawn returns a Link whose numbers are near the ends of what they may be, and
// now and then beyond.
func drawn(roll func(n int) int) api.Link {
	l := api.Link{
		Period: pick(roll, 1, 2, 10, 10, 10, longest-1, longest),
		Most:   pick(roll, 0, 1, 2, 2, 3, 19, 20),
		Quiet:  pick(roll, 1, 50, 50, 50, longest),
		Heard:  pick(roll, 0, 10, 20, 30, 59, 60, 61, greatest-1, greatest),
	}
	at := roll(3)
	for range roll(9) {
		w := api.Wait{T: at, Due: pick(roll, 0, 30, 59, 60, 61, greatest, latest), Tries: roll(l.Most + 1)}
		w.Body = bytes.Repeat([]byte{byte(roll(256))}, pick(roll, 1, 2, 3, 4, 1022, 1023))
		l.Waits = append(l.Waits, w)
		at += 1 + roll(4)
	}
	if roll(8) == 0 {
		spoilOne(roll, &l)
	}
	return l
}

// spoilOne makes one thing about l a number that it may not be, as a rule.
func spoilOne(roll func(n int) int, l *api.Link) {
	bad := pick(roll, math.MinInt, -1, 0, 21, longest+1, greatest+1, latest+1, math.MaxInt)
	list := []*int{&l.Period, &l.Most, &l.Quiet, &l.Heard}
	if n := len(l.Waits); n > 0 {
		w := &l.Waits[roll(n)]
		list = append(list, &w.T, &w.Due, &w.Tries, &w.T, &w.Due, &w.Tries)
		if roll(5) == 0 {
			w.Body = make([]byte, pick(roll, 0, 1024))
		}
	}
	*list[roll(len(list))] = bad
}

func TestCallsOfDrawnLinks(t *testing.T) {
	fine, wrong := 0, 0
	for seed := range 20000 {
		roll := draw(uint64(seed))
		l := drawn(roll)
		if valid(l) {
			fine++
		} else {
			wrong++
		}
		body := make([]byte, pick(roll, 0, 1, 1, 1, 1, 1, 5, 1023, 1024))
		expectCalls(t, l, pick(roll, -1, 0, 1, 2, 3, 4, 5, 10, 15, 60, greatest, greatest+1), pick(roll, -1, 0, 30, 59, 60, 61, 62, 110, greatest, greatest+1), body)
	}
	if fine < 10000 || wrong < 1000 {
		t.Errorf("%d valid, %d invalid", fine, wrong)
	}
}

// P12.5

// sent is what is known of a message in a sequence of calls.
type sent struct {
	body  string
	due   int
	again int
}

// session is a sequence of calls, and what is known of its messages.
type session struct {
	t       *testing.T
	roll    func(n int) int
	l       api.Link
	now     int
	heard   int
	waiting map[int]sent
	acked   map[string]bool
	tried   map[string]int
}

func begin(t *testing.T, seed uint64, most, quiet int) *session {
	s := &session{t: t, roll: draw(seed), waiting: map[int]sent{}, acked: map[string]bool{}, tried: map[string]int{}}
	s.now = pick(s.roll, 0, 1000, 1<<31, greatest-20000)
	s.heard = s.now
	var err api.Errno
	if s.l, err = New(10, most, quiet, s.now); err != api.OK {
		t.Fatalf("New: %d", err)
	}
	return s
}

// send sends a message whose body no other one has, and whose T may be less than
// those of earlier ones.
func (s *session) send() {
	at := s.now + s.roll(100)
	body := "message " + strconv.Itoa(len(s.tried))
	_, there := s.waiting[at]
	next, err := Sent(s.l, at, s.now, []byte(body))
	switch {
	case there:
		if err != api.ErrThere {
			s.t.Fatalf("Sent of what is there: %d", err)
		}
	case len(s.waiting) == 8:
		if err != api.ErrFull {
			s.t.Fatalf("Sent with 8 Waits: %d", err)
		}
	case err != api.OK || !May(next):
		s.t.Fatalf("Sent: %+v %d", next, err)
	default:
		s.l, s.tried[body] = next, 0
		s.waiting[at] = sent{body, s.now + 10, 0}
	}
}

// ack acknowledges the message with the timestamp at.
func (s *session) ack(at int) {
	next, err := Acked(s.l, at)
	if err != api.OK || !May(next) {
		s.t.Fatalf("Acked: %+v %d", next, err)
	}
	s.l, s.acked[s.waiting[at].body] = next, true
	delete(s.waiting, at)
}

func (s *session) hear() {
	next, err := Heard(s.l, s.now)
	if err != api.OK || !May(next) {
		s.t.Fatalf("Heard: %+v %d", next, err)
	}
	s.l, s.heard = next, s.now
}

// tick holds a tick against what is known, and reports whether the peer is lost.
func (s *session) tick() bool {
	next, bodies, lost, err := Tick(s.l, s.now)
	if err != api.OK || !May(next) {
		s.t.Fatalf("Tick: %+v %d", next, err)
	}
	wantLost := s.now-s.heard > s.l.Quiet
	for _, m := range s.waiting {
		wantLost = wantLost || m.due <= s.now && m.again == s.l.Most
	}
	if lost != wantLost || lost && (len(bodies) > 0 || !sameLink(next, s.l)) {
		s.t.Fatalf("Tick at %d of %+v: %+v %v, lost %v", s.now, s.l, next, bodies, lost)
	}
	if lost {
		return true
	}
	s.l = next
	s.again(bodies)
	return false
}

// again checks that the bodies are those of the messages that are due.
func (s *session) again(bodies [][]byte) {
	for _, w := range s.l.Waits {
		m := s.waiting[w.T]
		if m.due > s.now {
			continue
		}
		m.due, m.again = s.now+10, m.again+1
		s.waiting[w.T] = m
		if len(bodies) == 0 || string(bodies[0]) != m.body {
			s.t.Fatalf("at %d %q is not sent again: %q", s.now, m.body, bodies)
		}
		s.tried[m.body]++
		if s.acked[m.body] || s.tried[m.body] > s.l.Most {
			s.t.Fatalf("at %d %q is sent again", s.now, m.body)
		}
		bodies = bodies[1:]
	}
	if len(bodies) > 0 {
		s.t.Fatalf("at %d these are sent again: %q", s.now, bodies)
	}
}

// one returns a timestamp that waits, the same one for the same seed.
func (s *session) one() int { return s.l.Waits[s.roll(len(s.l.Waits))].T }

func TestSequences(t *testing.T) {
	lost, tried, acked, most := 0, 0, 0, 0
	for seed := range 2000 {
		s := begin(t, uint64(seed), seed%21, 30+seed%40)
		for range 300 {
			switch s.roll(6) {
			case 0:
				s.send()
			case 1:
				if len(s.waiting) > 0 {
					s.ack(s.one())
				}
			case 2:
				s.hear()
			default:
				s.now += s.roll(8)
			}
			if s.tick() {
				lost++
				break
			}
		}
		acked += len(s.acked)
		for _, n := range s.tried {
			tried += n
			if n == s.l.Most && n > 0 {
				most++
			}
		}
	}
	if lost < 500 || tried < 5000 || acked < 5000 || most < 500 {
		t.Errorf("%d lost, %d sent again, %d acknowledged, %d sent again as often as may be", lost, tried, acked, most)
	}
}

// A message that is never acknowledged is sent again Most times, and then the
// peer is lost, however often the peer is heard and others are acknowledged.
func TestSequencesWithOneThatIsNeverAcknowledged(t *testing.T) {
	for seed := range 400 {
		s := begin(t, uint64(seed), seed%21, 50)
		s.send()
		first := s.one()
		for !s.tick() {
			s.hear()
			s.send()
			for _, w := range slices.Clone(s.l.Waits) {
				if w.T != first && (w.Tries == s.l.Most || s.roll(3) == 0) {
					s.ack(w.T)
				}
			}
			s.now += s.roll(12)
		}
		if n := s.tried["message 0"]; n != seed%21 {
			t.Fatalf("seed %d: sent again %d times, want %d", seed, n, seed%21)
		}
	}
}

// An acknowledged message is not sent again, and does not lose the peer.
func TestSequencesWithAcknowledgements(t *testing.T) {
	for tries := range 21 {
		s := begin(t, 1, 20, 50)
		s.send()
		for range tries {
			s.now += 10
			s.hear()
			s.tick()
		}
		s.ack(s.one())
		for range 500 {
			s.now += s.roll(20)
			s.hear()
			if s.tick() {
				t.Fatalf("%d: lost", tries)
			}
		}
		if n := s.tried["message 0"]; n != tries {
			t.Fatalf("sent again %d times, want %d", n, tries)
		}
	}
}

// A peer that is heard at least every Quiet is not lost; one that is silent for
// longer is.
func TestSequencesWithAPeerThatIsHeard(t *testing.T) {
	for seed := range 300 {
		quiet := 1 + seed%60
		s := begin(t, uint64(seed), 2, quiet)
		for range 100 {
			until := s.now + s.roll(quiet+1)
			for ; s.now <= until; s.now++ {
				if s.tick() {
					t.Fatalf("seed %d: lost at %d, heard at %d", seed, s.now, s.heard)
				}
			}
			s.now = until
			s.hear()
		}
		s.now += quiet
		if s.tick() {
			t.Fatalf("seed %d: lost too soon", seed)
		}
		s.now++
		if !s.tick() {
			t.Fatalf("seed %d: not lost", seed)
		}
		s.hear()
		if s.tick() {
			t.Fatalf("seed %d: lost although heard", seed)
		}
	}
}

// R5: nothing is kept between calls, so Links do not affect one another.
func TestLinksAreApart(t *testing.T) {
	l := linked(many(3)...)
	one := expectSent(t, l, 35, 60, []byte("one"), result{l: linked(append(many(3), wait(35, 70, 0, "one"))...)})
	other := expectSent(t, l, 35, 61, []byte("other"), result{l: linked(append(many(3), wait(35, 71, 0, "other"))...)})
	expectAcked(t, one, 35, result{l: linked(many(3)...)})
	expectAcked(t, other, 10, result{l: linked(append(many(3)[1:], wait(35, 71, 0, "other"))...)})
	expectAcked(t, l, 35, result{err: api.ErrNone})
	expectSent(t, one, 35, 60, []byte("one"), result{err: api.ErrThere})
}
