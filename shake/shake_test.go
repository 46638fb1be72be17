package shake

import (
	"bytes"
	"encoding/binary"
	"math"
	"math/rand/v2"
	"reflect"
	"slices"
	"strings"
	"testing"

	"lineside/api"
	"lineside/cipher"
	"lineside/mac"
	"lineside/pdu"
)

// The chapter written anew. It knows nothing of package shake.

// need is a condition of a promise, and the error where it does not hold.
type need struct {
	holds bool
	err   api.Errno
}

// firstError returns the error of the first condition that does not hold.
func firstError(needs ...need) api.Errno {
	for _, n := range needs {
		if !n.holds {
			return n.err
		}
	}
	return api.OK
}

// fits reports whether q matches p as a kind.
func fits(p api.Peer, q api.PDU, kind int) bool {
	fromOther := p.Side == 0 && q.Dir == 1 || p.Side != 0 && q.Dir == 0
	return pdu.May(q) && q.Kind == kind && fromOther && q.Train == p.Train
}

func inRange(train int) bool { return 0 <= train && train <= 16777215 }

// derived returns the key of P8.2, by the cipher alone.
func derived(base api.Key, a, b uint32) api.Key {
	var v [16]byte
	first := cipher.Encrypt(base, uint64(a)<<32+uint64(b))
	binary.BigEndian.PutUint64(v[:], first)
	binary.BigEndian.PutUint64(v[8:], cipher.Encrypt(base, math.MaxUint64-first))
	var k api.Key
	for i := range k {
		k[i] = binary.BigEndian.Uint32(v[4*i:])
	}
	return k
}

// coded returns q with the code of its text under k, valid or not.
func coded(k api.Key, q api.PDU) api.PDU {
	q.Mac = mac.Mac(k, pdu.Text(q))
	return q
}

// side returns the direction of what p sends.
func side(p api.Peer) int {
	if p.Side == 0 {
		return 0
	}
	return 1
}

// result is what a function of the package returns, as far as it does.
type result struct {
	p    api.Peer
	q    api.PDU
	body []byte
	err  api.Errno
}

func wantAsk(p api.Peer, a uint32) result {
	if err := firstError(need{p.Side == 0 && inRange(p.Train), api.ErrArg}); err != api.OK {
		return result{err: err}
	}
	q := api.PDU{Kind: 1, Train: p.Train, A: a}
	p.State, p.A, p.B, p.Key = 1, a, 0, api.Key{}
	return result{p: p, q: q}
}

func wantAnswer(p api.Peer, q api.PDU, b uint32) result {
	if err := firstError(need{p.Side != 0, api.ErrArg}, need{fits(p, q, 1), api.ErrArg}); err != api.OK {
		return result{err: err}
	}
	p.Half, p.A2, p.B2 = true, q.A, b
	return result{p: p, q: coded(p.Base, api.PDU{Kind: 2, Dir: 1, Train: p.Train, A: q.A, B: b})}
}

func wantConfirm(p api.Peer, q api.PDU) result {
	err := firstError(need{p.Side == 0, api.ErrArg}, need{fits(p, q, 2), api.ErrArg},
		need{p.State == 1, api.ErrState}, need{q.A == p.A, api.ErrStale},
		need{q.Mac == mac.Mac(p.Base, pdu.Text(q)), api.ErrMac})
	if err != api.OK {
		return result{err: err}
	}
	p.State, p.B, p.Key = 2, q.B, derived(p.Base, p.A, q.B)
	return result{p: p, q: coded(p.Base, api.PDU{Kind: 3, Train: p.Train, A: p.A, B: q.B})}
}

func wantDone(p api.Peer, q api.PDU) result {
	err := firstError(need{p.Side != 0, api.ErrArg}, need{fits(p, q, 3), api.ErrArg},
		need{p.Half, api.ErrState}, need{q.A == p.A2, api.ErrStale}, need{q.B == p.B2, api.ErrStale},
		need{q.Mac == mac.Mac(p.Base, pdu.Text(q)), api.ErrMac})
	if err != api.OK {
		return result{err: err}
	}
	return result{p: api.Peer{Side: p.Side, Train: p.Train, Base: p.Base,
		State: 2, A: p.A2, B: p.B2, Key: derived(p.Base, p.A2, p.B2)}}
}

func wantData(p api.Peer, body []byte) result {
	err := firstError(need{p.State == 2, api.ErrState},
		need{1 <= len(body) && len(body) <= 1023, api.ErrArg}, need{inRange(p.Train), api.ErrArg})
	if err != api.OK {
		return result{err: err}
	}
	return result{q: coded(p.Key, api.PDU{Kind: 5, Dir: side(p), Train: p.Train, B: p.B, Body: body})}
}

// overUp returns the error that Take and Close have for a PDU of a kind.
func overUp(p api.Peer, q api.PDU, kind int) api.Errno {
	return firstError(need{fits(p, q, kind), api.ErrArg}, need{p.State == 2, api.ErrState},
		need{q.B == p.B, api.ErrStale}, need{q.Mac == mac.Mac(p.Key, pdu.Text(q)), api.ErrMac})
}

func wantTake(p api.Peer, q api.PDU) result {
	if err := overUp(p, q, 5); err != api.OK {
		return result{err: err}
	}
	return result{body: q.Body}
}

// idle returns p, closed.
func idle(p api.Peer) api.Peer {
	return api.Peer{Side: p.Side, Train: p.Train, Base: p.Base, Half: p.Half, A2: p.A2, B2: p.B2}
}

func wantEnd(p api.Peer, why byte) result {
	err := firstError(need{p.State == 2, api.ErrState}, need{inRange(p.Train), api.ErrArg})
	if err != api.OK {
		return result{err: err}
	}
	return result{p: idle(p), q: coded(p.Key, api.PDU{Kind: 6, Dir: side(p), Train: p.Train, B: p.B, Body: []byte{why}})}
}

func wantClose(p api.Peer, q api.PDU) result {
	if err := overUp(p, q, 6); err != api.OK {
		return result{err: err}
	}
	return result{p: idle(p)}
}

// What the functions return, as results.

func haveAsk(p api.Peer, a uint32) (r result) {
	r.p, r.q, r.err = Ask(p, a)
	return r
}

func haveAnswer(p api.Peer, q api.PDU, b uint32) (r result) {
	r.p, r.q, r.err = Answer(p, q, b)
	return r
}

func haveConfirm(p api.Peer, q api.PDU) (r result) {
	r.p, r.q, r.err = Confirm(p, q)
	return r
}

func haveDone(p api.Peer, q api.PDU) (r result) {
	r.p, r.err = Done(p, q)
	return r
}

func haveData(p api.Peer, body []byte) (r result) {
	r.q, r.err = Data(p, body)
	return r
}

func haveTake(p api.Peer, q api.PDU) (r result) {
	r.body, r.err = Take(p, q)
	return r
}

func haveEnd(p api.Peer, why byte) (r result) {
	r.p, r.q, r.err = End(p, why)
	return r
}

func haveClose(p api.Peer, q api.PDU) (r result) {
	r.p, r.err = Close(p, q)
	return r
}

// What the tests are about.

const (
	none = math.MaxUint32
	most = 1<<24 - 1
)

var (
	exampleBase = api.Key{1, 2, 3, 4}
	exampleKey  = api.Key{11, 12, 13, 14}
	sides       = []int{0, 1, 2, 255, -1, math.MinInt}
	states      = []int{api.PeerIdle, api.PeerAsked, api.PeerUp, 3, -1, math.MaxInt}
	goodTrains  = []int{0, 1, 5, 65536, most - 1, most}
	badTrains   = []int{-1, -5, most + 1, 1<<24 + 5, 1<<32 + 5, math.MinInt, math.MaxInt}
)

// peer returns a peer whose fields all differ from each other and from 0.
func peer(side, state int) api.Peer {
	return api.Peer{Side: side, Train: 5, Base: exampleBase, State: state, A: 21, B: 22, Key: exampleKey, A2: 31, B2: 32}
}

// halfPeer returns one that has answered.
func halfPeer(side, state int) api.Peer {
	p := peer(side, state)
	p.Half = true
	return p
}

// peers returns a peer of each side and state, with and without Half, of each
// of the trains.
func peers(trains ...int) []api.Peer {
	var out []api.Peer
	for _, s := range sides {
		for _, state := range states {
			for _, train := range trains {
				p, h := peer(s, state), halfPeer(s, state)
				p.Train, h.Train = train, train
				out = append(out, p, h)
			}
		}
	}
	return out
}

func source() *rand.Rand { return rand.New(rand.NewPCG(10, 6)) }

func drawnKey(r *rand.Rand) api.Key {
	return api.Key{r.Uint32(), r.Uint32(), r.Uint32(), r.Uint32()}
}

func drawnBytes(r *rand.Rand, count int) []byte {
	out := make([]byte, count)
	for i := range out {
		out[i] = byte(r.Uint32())
	}
	return out
}

// sameResult reports whether two results are the same; an empty body may be nil
// or not (R6).
func sameResult(r, s result) bool {
	equal := bytes.Equal(r.q.Body, s.q.Body) && bytes.Equal(r.body, s.body)
	r.q.Body, s.q.Body, r.body, s.body = nil, nil, nil, nil
	return equal && reflect.DeepEqual(r, s)
}

func expect(t *testing.T, what string, have, want result) {
	t.Helper()
	if !sameResult(have, want) {
		t.Errorf("%s:\n%+v, want\n%+v", what, have, want)
	}
}

func expectError(t *testing.T, what string, have result, err api.Errno) {
	t.Helper()
	expect(t, what, have, result{err: err})
}

// connected returns two peers, a train and the trackside, after a handshake.
func connected(t *testing.T, train, track api.Peer, a, b uint32) (api.Peer, api.Peer) {
	t.Helper()
	train, q, err := Ask(train, a)
	track, r, err2 := Answer(track, q, b)
	train, s, err3 := Confirm(train, r)
	track, err4 := Done(track, s)
	if err != api.OK || err2 != api.OK || err3 != api.OK || err4 != api.OK {
		t.Fatalf("errors of the handshake: %d %d %d %d", err, err2, err3, err4)
	}
	return train, track
}

func examplePair(t *testing.T) (api.Peer, api.Peer) {
	t.Helper()
	train := api.Peer{Train: 5, Base: exampleBase}
	return connected(t, train, api.Peer{Side: 1, Train: 5, Base: exampleBase}, 7, 9)
}

// The chapter's example

func TestTheExample(t *testing.T) {
	train, track := api.Peer{Train: 5, Base: exampleBase}, api.Peer{Side: 1, Train: 5, Base: exampleBase}

	train, q, err := Ask(train, 7)
	expect(t, "Ask", result{train, q, nil, err}, result{
		p: api.Peer{Train: 5, Base: exampleBase, State: api.PeerAsked, A: 7},
		q: api.PDU{Kind: api.AU1, Train: 5, A: 7}})

	track, q, err = Answer(track, q, 9)
	expect(t, "Answer", result{track, q, nil, err}, result{
		p: api.Peer{Side: 1, Train: 5, Base: exampleBase, Half: true, A2: 7, B2: 9},
		q: api.PDU{Kind: api.AU2, Dir: 1, Train: 5, A: 7, B: 9,
			Mac: mac.Mac(exampleBase, []byte{5, 0, 0, 5, 0, 0, 0, 7, 0, 0, 0, 9})}})

	key := mac.Derive(exampleBase, 7, 9)
	train, q, err = Confirm(train, q)
	expect(t, "Confirm", result{train, q, nil, err}, result{
		p: api.Peer{Train: 5, Base: exampleBase, State: api.PeerUp, A: 7, B: 9, Key: key},
		q: api.PDU{Kind: api.AU3, Train: 5, A: 7, B: 9,
			Mac: mac.Mac(exampleBase, []byte{6, 0, 0, 5, 0, 0, 0, 7, 0, 0, 0, 9})}})

	track, err = Done(track, q)
	expect(t, "Done", result{p: track, err: err}, result{
		p: api.Peer{Side: 1, Train: 5, Base: exampleBase, State: api.PeerUp, A: 7, B: 9, Key: key}})

	q, err = Data(track, []byte{4})
	expect(t, "Data", result{q: q, err: err}, result{q: api.PDU{Kind: api.DT, Dir: 1, Train: 5, B: 9, Body: []byte{4},
		Mac: mac.Mac(key, []byte{11, 0, 0, 5, 0, 0, 0, 9, 0, 1, 4})}})
	expect(t, "Take", haveTake(train, q), result{body: []byte{4}})
	q.B = 8
	expectError(t, "Take of a DT with B 8", haveTake(train, q), api.ErrStale)
	expectError(t, "Take of a sealed DT with B 8", haveTake(train, pdu.Seal(key, q)), api.ErrStale)

	ended, q, err := End(train, 3)
	expect(t, "End", result{ended, q, nil, err}, result{
		p: api.Peer{Train: 5, Base: exampleBase},
		q: api.PDU{Kind: api.DI, Train: 5, B: 9, Body: []byte{3}, Mac: mac.Mac(key, []byte{12, 0, 0, 5, 0, 0, 0, 9, 3})}})
	expect(t, "Close", haveClose(track, q), result{p: api.Peer{Side: 1, Train: 5, Base: exampleBase}})
}

// P10.1

func TestAsk(t *testing.T) {
	for _, p := range peers(slices.Concat(goodTrains, badTrains)...) {
		for _, a := range []uint32{0, 1, 7, 21, 31, 1 << 31, none} {
			expect(t, "Ask", haveAsk(p, a), wantAsk(p, a))
		}
	}
}

func TestAskByHand(t *testing.T) {
	p := halfPeer(0, api.PeerUp)
	want := p
	want.State, want.A, want.B, want.Key = api.PeerAsked, 77, 0, api.Key{}
	expect(t, "a train that is up", haveAsk(p, 77), result{p: want, q: api.PDU{Kind: api.AU1, Train: 5, A: 77}})
	for _, train := range []int{0, most} {
		p.Train, want.Train = train, train
		expect(t, "a train at an end of the range", haveAsk(p, 77), result{p: want, q: api.PDU{Kind: api.AU1, Train: train, A: 77}})
	}
	for _, train := range []int{-1, most + 1} {
		p.Train = train
		expectError(t, "a train beyond the range", haveAsk(p, 77), api.ErrArg)
	}
	for _, s := range []int{1, 2, 255, -1} {
		expectError(t, "the trackside", haveAsk(peer(s, api.PeerIdle), 77), api.ErrArg)
	}
}

// P10.2

func TestAnswer(t *testing.T) {
	for _, p := range peers(0, 5, most) {
		q := api.PDU{Kind: api.AU1, Train: p.Train, A: 41}
		for _, b := range []uint32{0, 1, 22, 32, 9, none} {
			have := haveAnswer(p, q, b)
			expect(t, "Answer", have, wantAnswer(p, q, b))
			if (have.err == api.OK) != (p.Side != 0) {
				t.Errorf("side %d: %d", p.Side, have.err)
			}
		}
	}
}

// An AU1 that comes while a connection is up changes nothing in it.
func TestAnswerLeavesTheConnection(t *testing.T) {
	p := peer(1, api.PeerUp)
	want := p
	want.Half, want.A2, want.B2 = true, 41, 42
	have := haveAnswer(p, api.PDU{Kind: api.AU1, Train: 5, A: 41}, 42)
	expect(t, "Answer", have, result{p: want, q: pdu.Seal(exampleBase, api.PDU{Kind: api.AU2, Dir: 1, Train: 5, A: 41, B: 42})})
	again := haveAnswer(have.p, api.PDU{Kind: api.AU1, Train: 5, A: 51}, 52)
	want.A2, want.B2 = 51, 52
	expect(t, "a second Answer", again, result{p: want, q: pdu.Seal(exampleBase, api.PDU{Kind: api.AU2, Dir: 1, Train: 5, A: 51, B: 52})})
}

func TestAnswerOfATrain(t *testing.T) {
	for _, state := range states {
		for _, dir := range []int{0, 1} {
			q := api.PDU{Kind: api.AU1, Dir: dir, Train: 5, A: 41}
			expectError(t, "Answer", haveAnswer(peer(0, state), q, 42), api.ErrArg)
		}
	}
}

// Errors, alone and together

// fault is a change of what was right, and the error that it leads to. Late
// ones are made after the PDU was sealed.
type fault struct {
	name string
	err  api.Errno
	late bool
	make func(p *api.Peer, q *api.PDU)
}

// expectFaults checks a function with no fault, with each one, and with each
// set of them: the error is the first one in the chapter's order.
func expectFaults(t *testing.T, p api.Peer, k api.Key, q api.PDU, faults []fault, call func(p api.Peer, q api.PDU) result) {
	t.Helper()
	order := []api.Errno{api.ErrArg, api.ErrState, api.ErrStale, api.ErrMac}
	for choice := range 1 << len(faults) {
		p, q := p, q
		q.Body = bytes.Clone(q.Body)
		var names []string
		first := len(order)
		for _, late := range []bool{false, true} {
			for i, f := range faults {
				if choice>>i&1 == 1 && f.late == late {
					f.make(&p, &q)
					names = append(names, f.name)
					first = min(first, slices.Index(order, f.err))
				}
			}
			if !late {
				q = coded(k, q)
			}
		}
		what := strings.Join(names, ", ")
		if first < len(order) {
			expectError(t, what, call(p, q), order[first])
		} else if have := call(p, q); have.err != api.OK {
			t.Errorf("no fault: %d", have.err)
		}
	}
}

// common are the faults that each function that receives a PDU has.
func common() []fault {
	return []fault{
		{"another Train", api.ErrArg, false, func(p *api.Peer, q *api.PDU) { q.Train++ }},
		{"another side", api.ErrArg, false, func(p *api.Peer, q *api.PDU) { q.Dir = 1 - q.Dir }},
		{"another kind", api.ErrArg, false, func(p *api.Peer, q *api.PDU) {
			q.Kind = []int{0, api.AU3, api.AU1, api.AU2, 0, api.DI, api.DT}[q.Kind]
		}},
		{"no Train", api.ErrArg, false, func(p *api.Peer, q *api.PDU) { p.Train, q.Train = -1, -1 }},
		{"not valid", api.ErrArg, false, func(p *api.Peer, q *api.PDU) { q.Body = make([]byte, 1024) }},
		{"another code", api.ErrMac, true, func(p *api.Peer, q *api.PDU) { q.Mac ^= 1 << 40 }},
	}
}

// P10.3

// asking returns a peer, and the PDU that it confirms once that is sealed.
func asking() (api.Peer, api.PDU) {
	return peer(0, api.PeerAsked), api.PDU{Kind: api.AU2, Dir: 1, Train: 5, A: 21, B: 42}
}

func TestErrorsOfConfirm(t *testing.T) {
	p, q := asking()
	faults := append(common(),
		fault{"the trackside", api.ErrArg, false, func(p *api.Peer, q *api.PDU) { p.Side = 1 }},
		fault{"idle", api.ErrState, false, func(p *api.Peer, q *api.PDU) { p.State = api.PeerIdle }},
		fault{"up", api.ErrState, false, func(p *api.Peer, q *api.PDU) { p.State = api.PeerUp }},
		fault{"another A", api.ErrStale, false, func(p *api.Peer, q *api.PDU) { p.A++ }})
	expectFaults(t, p, exampleBase, q, faults, haveConfirm)
}

func TestConfirmByHand(t *testing.T) {
	for _, half := range []bool{false, true} {
		p, q := asking()
		p.Half = half
		want := p
		want.State, want.B, want.Key = api.PeerUp, 42, derived(exampleBase, 21, 42)
		expect(t, "Confirm", haveConfirm(p, pdu.Seal(exampleBase, q)), result{p: want,
			q: pdu.Seal(exampleBase, api.PDU{Kind: api.AU3, Train: 5, A: 21, B: 42})})
	}
}

// The A that is asked for is that of the handshake, not A2 or B; the code is
// that of Base, not of Key.
func TestConfirmOfOtherFields(t *testing.T) {
	p, q := asking()
	for _, a := range []uint32{0, 20, 22, 31, 32, 21 + 1<<31, none} {
		q.A = a
		expectError(t, "another A", haveConfirm(p, pdu.Seal(exampleBase, q)), api.ErrStale)
	}
	p, q = asking()
	expectError(t, "sealed by Key", haveConfirm(p, pdu.Seal(exampleKey, q)), api.ErrMac)
	expectError(t, "not sealed", haveConfirm(p, q), api.ErrMac)
	sealed := pdu.Seal(exampleBase, q)
	sealed.B++
	expectError(t, "another B than the sealed one", haveConfirm(p, sealed), api.ErrMac)
	for _, b := range []uint32{0, 1, 22, 32, none} {
		q.B = b
		have := haveConfirm(p, pdu.Seal(exampleBase, q))
		expect(t, "Confirm of any B", have, wantConfirm(p, pdu.Seal(exampleBase, q)))
		if have.p.B != b || have.q.B != b {
			t.Errorf("B %d: %+v", b, have)
		}
	}
}

// P10.4

// answered returns a peer, and the PDU that it is done with once that is sealed.
func answered() (api.Peer, api.PDU) {
	return halfPeer(1, api.PeerIdle), api.PDU{Kind: api.AU3, Train: 5, A: 31, B: 32}
}

func TestErrorsOfDone(t *testing.T) {
	p, q := answered()
	faults := append(common(),
		fault{"a train", api.ErrArg, false, func(p *api.Peer, q *api.PDU) { p.Side = 0 }},
		fault{"not answered", api.ErrState, false, func(p *api.Peer, q *api.PDU) { p.Half = false }},
		fault{"another A", api.ErrStale, false, func(p *api.Peer, q *api.PDU) { p.A2++ }},
		fault{"another B", api.ErrStale, false, func(p *api.Peer, q *api.PDU) { p.B2-- }})
	expectFaults(t, p, exampleBase, q, faults, haveDone)
}

// In each state, as only Half counts.
func TestDoneByHand(t *testing.T) {
	for _, s := range []int{1, 2, 255, -1} {
		for _, state := range states {
			p, q := answered()
			p.Side, p.State = s, state
			expect(t, "Done", haveDone(p, pdu.Seal(exampleBase, q)), result{p: api.Peer{Side: s, Train: 5, Base: exampleBase,
				State: api.PeerUp, A: 31, B: 32, Key: derived(exampleBase, 31, 32)}})
			p.Half = false
			expectError(t, "Done without Half", haveDone(p, pdu.Seal(exampleBase, q)), api.ErrState)
		}
	}
}

func TestDoneOfOtherFields(t *testing.T) {
	p, q := answered()
	for _, ab := range [][2]uint32{{31, 31}, {32, 32}, {32, 31}, {21, 22}, {21, 32}, {31, 22}, {31, 33}, {30, 32}, {0, 0}, {31, 0}, {0, 32}, {none, none}} {
		q.A, q.B = ab[0], ab[1]
		expectError(t, "another A or B", haveDone(p, pdu.Seal(exampleBase, q)), api.ErrStale)
	}
	p, q = answered()
	expectError(t, "sealed by Key", haveDone(p, pdu.Seal(exampleKey, q)), api.ErrMac)
	expectError(t, "not sealed", haveDone(p, q), api.ErrMac)
}

func TestAReplayedAU3(t *testing.T) {
	p, q := answered()
	q = pdu.Seal(exampleBase, q)
	p, err := Done(p, q)
	if err != api.OK {
		t.Fatal(err)
	}
	expectError(t, "the same AU3 again", haveDone(p, q), api.ErrState)
	p, _, _ = Answer(p, api.PDU{Kind: api.AU1, Train: 5, A: 31}, 33)
	expectError(t, "the same AU3 after another AU1", haveDone(p, q), api.ErrStale)
}

// P10.5

// incoming returns a PDU of a kind that p receives once it is sealed.
func incoming(p api.Peer, kind int) api.PDU {
	return api.PDU{Kind: kind, Dir: 1 - side(p), Train: p.Train, B: p.B, Body: []byte{9}}
}

func TestData(t *testing.T) {
	dice := source()
	for _, size := range []int{0, 1, 2, 8, 255, 256, 1022, 1023, 1024, 1025, 70000} {
		body := drawnBytes(dice, size)
		for _, p := range peers(-1, 0, 5, most, most+1) {
			expect(t, "Data", haveData(p, body), wantData(p, body))
		}
	}
	for _, p := range peers(badTrains...) {
		expect(t, "Data", haveData(p, []byte{1}), wantData(p, []byte{1}))
	}
}

func TestErrorsOfData(t *testing.T) {
	for _, s := range []int{0, 1, 2, 255} {
		for _, state := range states {
			for _, train := range []int{-1, 0, most, most + 1} {
				for _, size := range []int{0, 1, 1023, 1024} {
					p := peer(s, state)
					p.Train = train
					have := haveData(p, make([]byte, size))
					switch {
					case state != api.PeerUp:
						expectError(t, "a peer that is not up", have, api.ErrState)
					case size == 0 || size == 1024 || train == -1 || train == most+1:
						expectError(t, "a body or a train that can't be sent", have, api.ErrArg)
					case have.err != api.OK:
						t.Errorf("side %d, train %d, %d bytes: %d", s, train, size, have.err)
					}
				}
			}
		}
	}
	expectError(t, "a nil body", haveData(peer(0, api.PeerUp), nil), api.ErrArg)
	expectError(t, "a nil body of an idle peer", haveData(peer(0, api.PeerIdle), nil), api.ErrState)
}

func TestErrorsOfTake(t *testing.T) {
	for _, s := range []int{0, 1, 2, 255} {
		p := peer(s, api.PeerUp)
		faults := append(common(),
			fault{"idle", api.ErrState, false, func(p *api.Peer, q *api.PDU) { p.State = api.PeerIdle }},
			fault{"asked", api.ErrState, false, func(p *api.Peer, q *api.PDU) { p.State = api.PeerAsked }},
			fault{"another B", api.ErrStale, false, func(p *api.Peer, q *api.PDU) { q.B++ }})
		expectFaults(t, p, exampleKey, incoming(p, api.DT), faults, haveTake)
	}
}

func TestTakeByHand(t *testing.T) {
	dice := source()
	for _, p := range []api.Peer{peer(0, api.PeerUp), peer(1, api.PeerUp), halfPeer(2, api.PeerUp), halfPeer(0, api.PeerUp)} {
		q := incoming(p, api.DT)
		for _, size := range []int{1, 2, 1022, 1023} {
			q.Body = drawnBytes(dice, size)
			expect(t, "Take", haveTake(p, pdu.Seal(p.Key, q)), result{body: q.Body})
		}
		for _, size := range []int{0, 1024} {
			q.Body = drawnBytes(dice, size)
			expectError(t, "Take of a body of 0 or 1024 bytes", haveTake(p, coded(p.Key, q)), api.ErrArg)
		}
		expectOtherFields(t, p, api.DT, haveTake)
	}
}

// expectOtherFields checks that B is that of the connection, not A, A2 or B2,
// and that the code is that of Key, not of Base.
func expectOtherFields(t *testing.T, p api.Peer, kind int, call func(p api.Peer, q api.PDU) result) {
	t.Helper()
	q := incoming(p, kind)
	for _, b := range []uint32{0, 21, 23, 31, 32, 22 + 1<<31, none} {
		q.B = b
		expectError(t, "another B", call(p, pdu.Seal(p.Key, q)), api.ErrStale)
	}
	q = incoming(p, kind)
	expectError(t, "sealed by Base", call(p, pdu.Seal(p.Base, q)), api.ErrMac)
	expectError(t, "not sealed", call(p, q), api.ErrMac)
	for _, state := range states {
		p.State = state
		if state != api.PeerUp {
			expectError(t, "a peer that is not up", call(p, pdu.Seal(p.Key, q)), api.ErrState)
		}
	}
}

// P10.6

func TestEnd(t *testing.T) {
	for _, p := range peers(slices.Concat(goodTrains, badTrains)...) {
		for _, why := range []byte{0, 1, 3, 127, 128, 255} {
			expect(t, "End", haveEnd(p, why), wantEnd(p, why))
		}
	}
}

func TestEndByHand(t *testing.T) {
	p := halfPeer(1, api.PeerUp)
	expect(t, "End", haveEnd(p, 200), result{
		p: api.Peer{Side: 1, Train: 5, Base: exampleBase, Half: true, A2: 31, B2: 32},
		q: pdu.Seal(exampleKey, api.PDU{Kind: api.DI, Dir: 1, Train: 5, B: 22, Body: []byte{200}})})
	for _, train := range []int{-1, most + 1} {
		p.Train = train
		p.State = api.PeerUp
		expectError(t, "a train beyond the range", haveEnd(p, 0), api.ErrArg)
		p.State = api.PeerIdle
		expectError(t, "an idle train beyond the range", haveEnd(p, 0), api.ErrState)
		p.State = api.PeerAsked
		expectError(t, "an asking train beyond the range", haveEnd(p, 0), api.ErrState)
	}
}

func TestErrorsOfClose(t *testing.T) {
	for _, s := range []int{0, 1, 2, 255} {
		p := peer(s, api.PeerUp)
		faults := append(common(),
			fault{"idle", api.ErrState, false, func(p *api.Peer, q *api.PDU) { p.State = api.PeerIdle }},
			fault{"asked", api.ErrState, false, func(p *api.Peer, q *api.PDU) { p.State = api.PeerAsked }},
			fault{"another B", api.ErrStale, false, func(p *api.Peer, q *api.PDU) { q.B++ }})
		expectFaults(t, p, exampleKey, incoming(p, api.DI), faults, haveClose)
	}
}

func TestCloseByHand(t *testing.T) {
	for _, p := range []api.Peer{peer(0, api.PeerUp), peer(1, api.PeerUp), halfPeer(2, api.PeerUp), halfPeer(0, api.PeerUp)} {
		q := incoming(p, api.DI)
		for _, why := range []byte{0, 1, 255} {
			q.Body = []byte{why}
			expect(t, "Close", haveClose(p, pdu.Seal(p.Key, q)), result{p: idle(p)})
		}
		for _, size := range []int{0, 2} {
			q.Body = make([]byte, size)
			expectError(t, "Close with a body of 0 or 2 bytes", haveClose(p, coded(p.Key, q)), api.ErrArg)
		}
		expectOtherFields(t, p, api.DI, haveClose)
	}
}

// A connection that ends while a handshake is half done does not end that one.
func TestAHandshakeOutlivesTheEnd(t *testing.T) {
	for _, end := range []func(p api.Peer) api.Peer{
		func(p api.Peer) api.Peer { return haveEnd(p, 0).p },
		func(p api.Peer) api.Peer { return haveClose(p, pdu.Seal(p.Key, incoming(p, api.DI))).p },
	} {
		p := end(halfPeer(1, api.PeerUp))
		q := pdu.Seal(exampleBase, api.PDU{Kind: api.AU3, Train: 5, A: 31, B: 32})
		expect(t, "Done", haveDone(p, q), result{p: api.Peer{Side: 1, Train: 5, Base: exampleBase,
			State: api.PeerUp, A: 31, B: 32, Key: derived(exampleBase, 31, 32)}})
	}
}

// All functions on many peers and PDUs

// shapes returns PDUs of each kind and direction for a peer: with its A and B,
// its A2 and B2, and others, sealed with its Base, its Key and not at all.
func shapes(p api.Peer) []api.PDU {
	var out []api.PDU
	for _, kind := range []int{-1, 0, api.AU1, api.AU2, api.AU3, 4, api.DT, api.DI, 7} {
		for _, dir := range []int{0, 1, 2} {
			for _, ab := range [][2]uint32{{p.A, p.B}, {p.A2, p.B2}, {p.A, p.B2}, {p.A2, p.B}, {p.A, 0}, {0, p.B}, {0, 0}, {41, 42}} {
				q := api.PDU{Kind: kind, Dir: dir, Train: p.Train, A: ab[0], B: ab[1]}
				other := q
				other.Train ^= 1
				long := q
				long.Body = []byte{1, 2}
				q.Body = [][]byte{nil, {9}}[max(0, kind)/5]
				for _, q := range []api.PDU{q, other, long} {
					out = append(out, q, coded(p.Base, q), coded(p.Key, q))
				}
			}
		}
	}
	return out
}

// expectEachCall checks each function that receives a PDU, and returns which of
// them have no error.
func expectEachCall(t *testing.T, p api.Peer, q api.PDU) (ok [5]bool) {
	t.Helper()
	have := [5]result{haveAnswer(p, q, 42), haveConfirm(p, q), haveDone(p, q), haveTake(p, q), haveClose(p, q)}
	want := [5]result{wantAnswer(p, q, 42), wantConfirm(p, q), wantDone(p, q), wantTake(p, q), wantClose(p, q)}
	for i, name := range []string{"Answer", "Confirm", "Done", "Take", "Close"} {
		if !sameResult(have[i], want[i]) {
			t.Errorf("%s(%+v, %+v):\n%+v, want\n%+v", name, p, q, have[i], want[i])
		}
		ok[i] = have[i].err == api.OK
	}
	return ok
}

func TestEachPeerWithEachShape(t *testing.T) {
	var counts [5]int
	for _, p := range peers(0, most, most+1) {
		for _, q := range shapes(p) {
			for i, ok := range expectEachCall(t, p, q) {
				if ok {
					counts[i]++
				}
			}
		}
	}
	for i, count := range counts {
		if count == 0 {
			t.Errorf("call %d never succeeded", i)
		}
	}
}

// A peer and a PDU that differ in the Train, or that both have one that is
// beyond the range.
func TestTrains(t *testing.T) {
	all := slices.Concat(goodTrains, badTrains)
	kinds := []int{api.AU1, api.AU2, api.AU3, api.DT, api.DI}
	ready := []api.Peer{peer(1, 0), peer(0, api.PeerAsked), halfPeer(1, 0), peer(0, api.PeerUp), peer(1, api.PeerUp)}
	for i, kind := range kinds {
		for _, own := range all {
			for _, told := range all {
				p := ready[i]
				p.Train = own
				q := api.PDU{Kind: kind, Dir: 1 - side(p), Train: told}
				switch kind {
				case api.AU1:
					q.A = 41
				case api.AU2:
					q.A, q.B = p.A, 42
				case api.AU3:
					q.A, q.B = p.A2, p.B2
				default:
					q.B, q.Body = p.B, []byte{9}
				}
				sealer := []api.Key{p.Base, p.Key}[kind/5]
				ok := expectEachCall(t, p, pdu.Seal(sealer, q))
				if ok[i] != (own == told && inRange(own)) {
					t.Errorf("kind %d, train %d, told %d: %v", kind, own, told, ok[i])
				}
			}
		}
	}
}

func TestInvalidPDUs(t *testing.T) {
	body := func(size int) []byte { return make([]byte, size) }
	for _, q := range []api.PDU{
		{}, {Kind: 4, Train: 5}, {Kind: math.MinInt, Train: 5}, {Kind: math.MaxInt, Train: 5, Body: body(1)},
		{Kind: api.AU1, Train: 5, B: 1}, {Kind: api.AU1, Train: 5, Mac: 1}, {Kind: api.AU1, Train: 5, Body: body(1)},
		{Kind: api.AU1, Dir: 1, Train: 5}, {Kind: api.AU1, Dir: -1, Train: 5},
		{Kind: api.AU2, Dir: 1, Train: 5, A: 21, Body: body(1)}, {Kind: api.AU2, Train: 5, A: 21}, {Kind: api.AU2, Dir: 3, Train: 5, A: 21},
		{Kind: api.AU3, Train: 5, A: 31, B: 32, Body: body(1)}, {Kind: api.AU3, Dir: 1, Train: 5, A: 31, B: 32}, {Kind: api.AU3, Dir: -1, Train: 5, A: 31, B: 32},
		{Kind: api.DT, Train: 5, B: 22}, {Kind: api.DT, Dir: 1, Train: 5, B: 22}, {Kind: api.DT, Dir: 1, Train: 5, B: 22, Body: body(1024)},
		{Kind: api.DT, Train: 5, A: 21, B: 22, Body: body(1)}, {Kind: api.DT, Dir: 1, Train: 5, A: 21, B: 22, Body: body(1)},
		{Kind: api.DT, Dir: 2, Train: 5, B: 22, Body: body(1)}, {Kind: api.DT, Dir: -1, Train: 5, B: 22, Body: body(1)},
		{Kind: api.DI, Train: 5, B: 22}, {Kind: api.DI, Dir: 1, Train: 5, B: 22, Body: body(2)}, {Kind: api.DI, Train: 5, B: 22, Body: body(2)},
		{Kind: api.DI, Dir: 1, Train: 5, A: 21, B: 22, Body: body(1)}, {Kind: api.DI, Dir: 2, Train: 5, B: 22, Body: body(1)},
	} {
		if pdu.May(q) {
			t.Fatalf("%+v is valid", q)
		}
		for _, p := range peers(5) {
			for _, sealed := range []api.PDU{q, coded(p.Base, q), coded(p.Key, q)} {
				for i, ok := range expectEachCall(t, p, sealed) {
					if ok {
						t.Errorf("call %d takes %+v", i, sealed)
					}
				}
			}
		}
	}
}

func TestDrawnPeersAndPDUs(t *testing.T) {
	dice := source()
	few := func() uint32 { return uint32(dice.IntN(3)) }
	key := func() api.Key { return api.Key{few()} }
	for range 200000 {
		p := api.Peer{Side: dice.IntN(3), Train: dice.IntN(2), Base: key(), State: dice.IntN(3),
			A: few(), B: few(), Key: key(), Half: dice.IntN(2) == 0, A2: few(), B2: few()}
		q := api.PDU{Kind: 1 + dice.IntN(6), Dir: dice.IntN(2), Train: dice.IntN(2), A: few(), B: few(), Body: make([]byte, dice.IntN(2))}
		if q.Kind >= api.DT {
			q.A = 0
		}
		if q.Kind == api.AU1 {
			q.B = 0
		}
		expectEachCall(t, p, pdu.Seal([]api.Key{p.Base, p.Key}[dice.IntN(2)], q))
	}
}

func TestZeroPeers(t *testing.T) {
	var p api.Peer
	expect(t, "Ask", haveAsk(p, 0), result{p: api.Peer{State: api.PeerAsked}, q: api.PDU{Kind: api.AU1}})
	expectError(t, "Answer", haveAnswer(p, api.PDU{}, 0), api.ErrArg)
	expectError(t, "Confirm", haveConfirm(p, api.PDU{}), api.ErrArg)
	expectError(t, "Done", haveDone(p, api.PDU{}), api.ErrArg)
	expectError(t, "Data", haveData(p, nil), api.ErrState)
	expectError(t, "Take", haveTake(p, api.PDU{}), api.ErrArg)
	expectError(t, "End", haveEnd(p, 0), api.ErrState)
	expectError(t, "Close", haveClose(p, api.PDU{}), api.ErrArg)
}

// P10.7

// expectPassed checks that what from sends is taken by to, and not by from.
func expectPassed(t *testing.T, from, to api.Peer, body []byte) {
	t.Helper()
	q, err := Data(from, body)
	if err != api.OK {
		t.Fatalf("%+v sends %d bytes: %d", from, len(body), err)
	}
	expect(t, "what was sent", haveTake(to, q), result{body: body})
	expectError(t, "what the same side sent", haveTake(from, q), api.ErrArg)
}

func TestHandshakes(t *testing.T) {
	dice := source()
	for i := range 3000 {
		base, number := drawnKey(dice), int(dice.Uint32()>>8)
		a, b := dice.Uint32(), dice.Uint32()
		old := peers(number)
		train, track := old[dice.IntN(len(old))], old[dice.IntN(len(old))]
		train.Side, train.Base = 0, base
		track.Base = base
		if track.Side == 0 {
			track.Side = 1
		}
		train, track = connected(t, train, track, a, b)
		key := derived(base, a, b)
		for _, p := range []api.Peer{train, track} {
			if p.State != api.PeerUp || p.A != a || p.B != b || p.Key != key || p.Train != number || p.Base != base {
				t.Fatalf("%+v, want A %d, B %d and the key %x", p, a, b, key)
			}
		}
		body := drawnBytes(dice, 1+i%1023)
		expectPassed(t, train, track, body)
		expectPassed(t, track, train, body)
	}
}

// Two peers that have not the same Base or Train are not connected.
func TestPeersThatDoNotBelongTogether(t *testing.T) {
	train, q, _ := Ask(api.Peer{Train: 5, Base: exampleBase}, 7)
	expectError(t, "another Train", haveAnswer(api.Peer{Side: 1, Train: 6, Base: exampleBase}, q, 9), api.ErrArg)
	for i := range 128 {
		track := api.Peer{Side: 1, Train: 5, Base: exampleBase}
		track.Base[i/32] ^= 1 << (i % 32)
		track, r, err := Answer(track, q, 9)
		if err != api.OK {
			t.Fatal(err)
		}
		expectError(t, "an AU2 with another Base", haveConfirm(train, r), api.ErrMac)
		s := pdu.Seal(exampleBase, api.PDU{Kind: api.AU3, Train: 5, A: 7, B: 9})
		expectError(t, "an AU3 with another Base", haveDone(track, s), api.ErrMac)
	}
}

// What was sent over an earlier connection, or over another one.
func TestOtherConnections(t *testing.T) {
	train, track := examplePair(t)
	before, _ := Data(track, []byte("before"))
	ended, stop, _ := End(track, 1)
	train2, track2 := connected(t, train, ended, 8, 10)
	expectError(t, "a DT of before", haveTake(train2, before), api.ErrStale)
	expectError(t, "a DI of before", haveClose(train2, stop), api.ErrStale)
	expectPassed(t, train2, track2, []byte("after"))
	expectPassed(t, track2, train2, []byte("after"))

	train3, track3 := connected(t, train, track, 8, 9)
	expectError(t, "a DT with the same B and another A", haveTake(train3, before), api.ErrMac)
	expectError(t, "a DI with the same B and another A", haveClose(train3, stop), api.ErrMac)
	expectPassed(t, train3, track3, []byte("after"))
}

func TestOldHandshakes(t *testing.T) {
	train, q, _ := Ask(api.Peer{Train: 5, Base: exampleBase}, 7)
	track := api.Peer{Side: 1, Train: 5, Base: exampleBase}
	track, r, _ := Answer(track, q, 9)
	_, s, _ := Confirm(train, r)

	again, _, _ := Ask(train, 8)
	expectError(t, "an AU2 for an earlier AU1", haveConfirm(again, r), api.ErrStale)
	second, _, _ := Answer(track, q, 10)
	expectError(t, "an AU3 for an earlier AU2", haveDone(second, s), api.ErrStale)
	up, _, _ := Confirm(train, r)
	expectError(t, "an AU2 that comes twice", haveConfirm(up, r), api.ErrState)
	track, _ = Done(track, s)
	expectError(t, "an AU3 that comes twice", haveDone(track, s), api.ErrState)
}

// A connection goes on while the trackside waits for an AU3.
func TestAConnectionOutlivesAnAU1(t *testing.T) {
	train, track := examplePair(t)
	track, _, err := Answer(track, api.PDU{Kind: api.AU1, Train: 5, A: 8}, 10)
	if err != api.OK {
		t.Fatal(err)
	}
	expectPassed(t, train, track, []byte("abc"))
	expectPassed(t, track, train, []byte("abc"))
}

func TestAnotherB(t *testing.T) {
	train, track := examplePair(t)
	for i := range 32 {
		for _, c := range []struct{ from, to api.Peer }{{train, track}, {track, train}} {
			other := c.from
			other.B ^= 1 << i
			q, err := Data(other, []byte("abc"))
			_, r, err2 := End(other, 4)
			if err != api.OK || err2 != api.OK {
				t.Fatal(err, err2)
			}
			expectError(t, "a DT with another B", haveTake(c.to, q), api.ErrStale)
			expectError(t, "a DI with another B", haveClose(c.to, r), api.ErrStale)
		}
	}
}

// expectTurned checks that a PDU is not taken with one byte of its encoding
// changed in any way. Errs tells the errors of the bytes: T of one of the head,
// B of a number that p knows, M of one that the code alone holds, - if no PDU
// may come of it. A PDU that has more bytes has M for them.
func expectTurned(t *testing.T, q api.PDU, errs string, call func(q api.PDU) result) {
	t.Helper()
	if have := call(q); have.err != api.OK {
		t.Fatalf("%+v: %d", q, have.err)
	}
	b, err := pdu.Encode(q)
	if err != api.OK {
		t.Fatal(err)
	}
	want := map[byte]api.Errno{'T': api.ErrArg, 'B': api.ErrStale, 'M': api.ErrMac}
	count := 0
	for i := range b {
		place := byte('M')
		if i < len(errs) {
			place = errs[i]
		}
		for change := 1; change < 256; change++ {
			b[i] ^= byte(change)
			turned, err := pdu.Decode(b)
			b[i] ^= byte(change)
			if err != api.OK {
				continue
			}
			count++
			if place == '-' {
				t.Errorf("%+v: byte %d changed by %d decodes", q, i, change)
			}
			expectError(t, "a PDU with one byte changed", call(turned), want[place])
		}
	}
	if count < 255*15 {
		t.Errorf("only %d changes decode", count)
	}
}

func TestOneByteTurned(t *testing.T) {
	train, track := examplePair(t)
	for _, c := range []struct{ from, to api.Peer }{{train, track}, {track, train}} {
		for _, size := range []int{1, 2, 9, 40} {
			q, _ := Data(c.from, drawnBytes(source(), size))
			expectTurned(t, q, "TTTTBBBB--", func(q api.PDU) result { return haveTake(c.to, q) })
		}
		_, q, _ := End(c.from, 3)
		expectTurned(t, q, "TTTTBBBB", func(q api.PDU) result { return haveClose(c.to, q) })
	}
}

func TestOneByteTurnedInAHandshake(t *testing.T) {
	train, q, _ := Ask(api.Peer{Train: 5, Base: exampleBase}, 7)
	track, r, _ := Answer(api.Peer{Side: 1, Train: 5, Base: exampleBase}, q, 9)
	_, s, _ := Confirm(train, r)
	expectTurned(t, r, "TTTTBBBBMMMM", func(q api.PDU) result { return haveConfirm(train, q) })
	expectTurned(t, s, "TTTTBBBBBBBB", func(q api.PDU) result { return haveDone(track, q) })
}

// R3 and R5

func TestArgumentsAreNotModified(t *testing.T) {
	spare := bytes.Repeat([]byte{77}, 40)
	for _, p := range peers(5) {
		own := p
		for _, q := range shapes(p) {
			q.Body = spare[:len(q.Body)]
			Answer(p, q, 1)
			Confirm(p, q)
			Done(p, q)
			Close(p, q)
			body, _ := Take(p, q)
			_ = append(body, 1, 2, 3)
			d, _ := Data(p, spare[:9])
			_ = append(d.Body, 1, 2, 3)
		}
		Ask(p, 1)
		End(p, 1)
		if p != own {
			t.Errorf("%+v was modified: %+v", own, p)
		}
	}
	if !bytes.Equal(spare, bytes.Repeat([]byte{77}, 40)) {
		t.Errorf("the bytes were modified: %v", spare)
	}
}

func turn(b []byte) {
	for i := range b {
		b[i] ^= 255
	}
}

func TestResultsAreTheCallers(t *testing.T) {
	train, track := examplePair(t)
	body := []byte("abc")
	q, _ := Data(train, body)
	turn(body)
	if string(q.Body) != "abc" {
		t.Errorf("%q follows the argument of Data", q.Body)
	}
	turn(q.Body)
	if body[0] != 'a'^255 {
		t.Errorf("%q follows the result of Data", body)
	}

	q, _ = Data(train, []byte("abc"))
	taken, _ := Take(track, q)
	turn(q.Body)
	if string(taken) != "abc" {
		t.Errorf("%q follows the argument of Take", taken)
	}
	turn(q.Body)
	turn(taken)
	if string(q.Body) != "abc" {
		t.Errorf("%q follows the result of Take", q.Body)
	}

	_, first, _ := End(train, 3)
	turn(first.Body)
	_, second, _ := End(train, 3)
	if first.Body[0] != 3^255 || second.Body[0] != 3 {
		t.Errorf("%v and %v share bytes", first.Body, second.Body)
	}
}

func TestNothingIsKeptBetweenCalls(t *testing.T) {
	p := peer(0, api.PeerUp)
	q := pdu.Seal(exampleKey, incoming(p, api.DT))
	for _, other := range peers(5, 6, -1) {
		for _, r := range shapes(other)[100:130] {
			expectEachCall(t, other, r)
		}
		haveAsk(other, 9)
		haveEnd(other, 9)
		haveData(other, []byte{8})
		expect(t, "Take", haveTake(p, q), result{body: []byte{9}})
		expect(t, "Ask", haveAsk(p, 3), wantAsk(p, 3))
	}
}
