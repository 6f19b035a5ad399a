package outcry_test

import (
	"bytes"
	"math/rand/v2"
	"slices"
	"testing"

	"outcry/api"
	"outcry/outcry"
)

// isCommand tells whether bytes are one, by their length and first byte, side and type.
func isCommand(b []byte) bool {
	if len(b) == 0 || b[0] < 1 || b[0] > 4 || len(b) != []int{0, 15, 5, 9, 5}[b[0]] {
		return false
	}
	return b[0] != 1 || (b[5] == 1 || b[5] == 2) && 1 <= b[6] && b[6] <= 4
}

// checkSend holds of any bytes at all.
func checkSend(t *testing.T, m *outcry.Market, b []byte) {
	t.Helper()
	before := m.Look()
	told := m.Send(b)
	events, errno, _ := outcry.Decode(told)
	if errno != api.OK {
		t.Fatalf("P4: Send(%v) = %v, which Decode does not read: %d", b, told, errno)
	}
	for i, e := range events {
		if e.Seq != before.Seq+1+i {
			t.Errorf("P4: Send(%v): %+v, behind the Seq %d", b, events, before.Seq)
		}
	}
	if seq := m.Look().Seq; seq != before.Seq+len(events) {
		t.Errorf("P8: Look().Seq is %d behind %d events, and was %d", seq, len(events), before.Seq)
	}
	malformed := slices.ContainsFunc(events, func(e api.Event) bool { return e.Reason == 1 })
	if malformed == isCommand(b) || malformed && (len(events) != 1 || events[0].Id != 0) {
		t.Errorf("P4: Send(%v): %+v", b, events)
	}
}

// busyIn gives a market with orders of both sides, in the book and, ahead of Closing, waiting.
func busyIn(t *testing.T, phase int) *play {
	t.Helper()
	p := start(t, roomyConfig())
	p.do(newOrder(1, buy, limit, 5, 101), newOrder(2, sell, limit, 3, 99), newOrder(3, sell, atClose, 4, 90), newOrder(0, buy, moo, 2, 0))
	for _, time := range []int{10, 20, 30}[:phase] {
		p.do(tick(time))
		p.do(newOrder(time, sell, limit, 3, 110), newOrder(time+1, buy, atClose, 3, 110), newOrder(time+2, buy, market, 1, 0))
	}
	if got := p.m.Look().Phase; got != phase {
		t.Fatalf("P7: the phase is %d, want %d", got, phase)
	}
	return p
}

func TestSendOfAnyBytes(t *testing.T) {
	dice := rand.New(rand.NewPCG(7, 8))
	for phase := range 4 {
		p := busyIn(t, phase)
		for range 15000 {
			b := make([]byte, []int{0, 1, 4, 5, 6, 8, 9, 10, 14, 15, 16, 40}[dice.IntN(12)])
			for i := range b {
				b[i] = byte(dice.IntN([]int{2, 6, 256}[dice.IntN(3)]))
			}
			checkSend(t, p.m, b)
			if p.m.Look().Phase != phase {
				p = busyIn(t, phase)
			}
		}
		for first := range 256 {
			for second := range 256 {
				checkSend(t, p.m, []byte{byte(first), byte(second)})
			}
		}
	}
}

// A malformed command changes nothing, in no phase.
func TestMalformedInEachPhase(t *testing.T) {
	for phase := range 4 {
		p := busyIn(t, phase)
		for _, c := range append(goodCommands(), tick(top), newOrder(2000, buy, market, 1, 0)) {
			p.refuse(c[:len(c)-1], 0, 1)
			p.refuse(append(slices.Clone(c), 0), 0, 1)
			p.refuse(append([]byte{0}, c[1:]...), 0, 1)
			p.refuse(append([]byte{5}, c[1:]...), 0, 1)
		}
		p.refuse(nil, 0, 1)
		p.refuse(newOrder(2000, 3, limit, 1, 1), 0, 1)
		p.refuse(newOrder(2000, buy, 5, 1, 1), 0, 1)
	}
}

func FuzzSend(f *testing.F) {
	for _, c := range goodCommands() {
		f.Add(c, c)
	}
	f.Fuzz(func(t *testing.T, one, other []byte) {
		for phase := range 4 {
			p := busyIn(t, phase)
			checkSend(t, p.m, one)
			checkSend(t, p.m, other)
			p.m.Orders()
		}
	})
}

// sent are commands of which each makes another answer, accepted, rejected or malformed, in each phase.
func sent() [][]byte {
	var commands [][]byte
	for phase := range 4 {
		id := 10 * phase
		commands = append(commands,
			newOrder(id+1, buy, limit, 4, 100), newOrder(id+1, buy, limit, 4, 100), newOrder(id+2, sell, atClose, 4, 100),
			newOrder(id+3, sell, market, 2, 0), newOrder(id+4, buy, moo, 2, 0), newOrder(id+5, sell, limit, 9, 0),
			reduce(id+1, 1), reduce(id+1, 0), cancel(9), tick(id+3), tick(id + 3)[:3], nil, []byte{9},
			append(cancel(id+1), 1), newOrder(id+6, 3, limit, 1, 1), newOrder(id+7, sell, limit, 3, 99),
			newOrder(id+8, buy, limit, 5, 101), cancel(id+1), tick(10*phase+10))
	}
	return commands
}

func TestSendWritesNothingAndKeepsNothing(t *testing.T) {
	kept, spoiled := start(t, roomyConfig()), start(t, roomyConfig())
	for _, c := range sent() {
		room := append(slices.Clone(c), bytes.Repeat([]byte{77}, 40)...)
		before := slices.Clone(room)
		handed := room[:len(c)]
		told := spoiled.m.Send(handed)
		if !bytes.Equal(room, before) {
			t.Errorf("P2: Send(%v) wrote into what it was handed, or behind it", c)
		}
		if shares(room, told[:cap(told)]) {
			t.Errorf("P2: the answer of Send(%v) shares memory with its argument", c)
		}
		// With the room behind it or not, and whatever becomes of it later: the same answer.
		clear(room)
		if want := kept.m.Send(slices.Clip(slices.Clone(c))); !bytes.Equal(told, want) {
			t.Errorf("P2: Send(%v) = %v, and without room behind it %v", c, told, want)
		}
		if !slices.Equal(kept.m.Orders(), spoiled.m.Orders()) || kept.m.Look() != spoiled.m.Look() {
			t.Errorf("P2: what Send(%v) was handed is kept", c)
		}
	}
}

func TestWhatSendAndOrdersGiveIsNewMemory(t *testing.T) {
	whole, spoiled := start(t, roomyConfig()), start(t, roomyConfig())
	var told [][]byte
	var orders [][]api.Order
	for _, c := range sent() {
		want, got := whole.m.Send(c), spoiled.m.Send(c)
		if !bytes.Equal(got, want) {
			t.Errorf("P2: Send(%v) = %v, want %v: an earlier answer was written over", c, got, want)
		}
		wantOrders, gotOrders := whole.m.Orders(), spoiled.m.Orders()
		if !slices.Equal(gotOrders, wantOrders) {
			t.Errorf("P2: Orders() = %+v, want %+v: an earlier answer was written over", gotOrders, wantOrders)
		}
		told, orders = append(told, got), append(orders, gotOrders)
		for i := range got[:cap(got)] {
			got[:cap(got)][i] = 77
		}
		for i := range gotOrders[:cap(gotOrders)] {
			gotOrders[:cap(gotOrders)][i] = api.Order{Id: 77, Side: 77, Rest: 77}
		}
	}
	wantNoneShared(t, "Send", told...)
	wantNoneShared(t, "Orders", orders...)
}

// Two markets that are told the same things in turns answer the same, and a third one is none the wiser.
func TestMarketsShareNothing(t *testing.T) {
	one, other, idle := start(t, roomyConfig()), start(t, roomyConfig()), start(t, roomyConfig())
	for _, c := range sent() {
		if a, b := one.m.Send(c), other.m.Send(c); !bytes.Equal(a, b) {
			t.Errorf("P2: Send(%v) = %v and %v, of two markets that were told the same", c, a, b)
		}
	}
	wantNew(t, idle.m, roomyConfig())
}
