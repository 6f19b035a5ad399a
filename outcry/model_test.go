package outcry_test

import (
	"bytes"
	"math/rand/v2"
	"slices"
	"testing"

	"outcry/api"
	"outcry/outcry"
)

// model is the document's words over a plain list, with nothing kept in priority.
type model struct {
	config api.Config
	look   api.Look
	orders []api.Order
	spent  map[int]int
}

func (m *model) sum(count func(o api.Order) bool) int {
	sum := 0
	for _, o := range m.orders {
		if count(o) {
			sum += o.Rest
		}
	}
	return sum
}

func (m *model) d(p int) int {
	return m.sum(func(o api.Order) bool { return !o.Waiting && o.Side == 1 && (o.Price == 0 || o.Price >= p) })
}

func (m *model) s(p int) int {
	return m.sum(func(o api.Order) bool { return !o.Waiting && o.Side == 2 && (o.Price == 0 || o.Price <= p) })
}

func (m *model) v(p int) int { return min(m.d(p), m.s(p)) }

func (m *model) differ(p int) int { return max(m.d(p)-m.s(p), m.s(p)-m.d(p)) }

func (m *model) call() api.Event {
	prices := []int{m.look.Reference}
	for _, o := range m.orders {
		if o.Price != 0 && !o.Waiting {
			prices = append(prices, o.Price)
		}
	}
	most := 0
	for _, p := range prices {
		most = max(most, m.v(p))
	}
	if most == 0 {
		return indicated(0, 0, 0)
	}
	prices = slices.DeleteFunc(prices, func(p int) bool { return m.v(p) != most })
	low := m.differ(prices[0])
	for _, p := range prices {
		low = min(low, m.differ(p))
	}
	prices = slices.DeleteFunc(prices, func(p int) bool { return m.differ(p) != low })
	slices.Sort(prices)
	price := m.oneOf(prices)
	return indicated(price, m.v(price), int64(m.d(price))-int64(m.s(price)))
}

func (m *model) oneOf(prices []int) int {
	moreD, moreS := 0, 0
	nearest := prices[0]
	for _, p := range prices {
		if m.d(p) > m.s(p) {
			moreD++
		}
		if m.s(p) > m.d(p) {
			moreS++
		}
		far := func(p int) int { return max(p-m.look.Reference, m.look.Reference-p) }
		if far(p) < far(nearest) {
			nearest = p
		}
	}
	switch len(prices) {
	case moreD:
		return prices[len(prices)-1]
	case moreS:
		return prices[0]
	}
	return nearest
}

// wish is a command ahead of its bytes.
type wish struct{ kind, id, side, orderType, qty, price int }

func (w wish) bytes() []byte {
	switch w.kind {
	case 1:
		return newOrder(w.id, w.side, w.orderType, w.qty, w.price)
	case 2:
		return cancel(w.id)
	case 3:
		return reduce(w.id, w.qty)
	}
	return tick(w.qty)
}

func (m *model) obey(w wish) []api.Event {
	at := slices.IndexFunc(m.orders, func(o api.Order) bool { return o.Id == w.id })
	switch {
	case w.kind == 1:
		return m.accept(w)
	case w.kind == 4:
		m.look.Time = max(m.look.Time, w.qty)
		return nil
	case at < 0:
		return []api.Event{rejected(w.id, 3)}
	case w.kind == 3 && w.qty == 0:
		return []api.Event{rejected(w.id, 4)}
	case w.kind == 3 && w.qty < m.orders[at].Rest:
		m.orders[at].Rest -= w.qty
		return []api.Event{reduced(w.id, w.qty), m.call()}
	}
	rest := m.orders[at].Rest
	m.orders = slices.Delete(m.orders, at, at+1)
	return []api.Event{cancelled(w.id, rest), m.call()}
}

func (m *model) accept(w wish) []api.Event {
	no := func(reason api.Reason) []api.Event { return []api.Event{rejected(w.id, reason)} }
	ofSide := m.sum(func(o api.Order) bool { return o.Side == w.side })
	hasPrice := w.orderType == 1 || w.orderType == 4
	switch {
	case w.side < 1 || w.side > 2 || w.orderType < 1 || w.orderType > 4:
		return []api.Event{rejected(0, 1)}
	case m.spent[w.id] > 0:
		return no(2)
	case w.qty == 0:
		return no(4)
	case hasPrice && (w.price == 0 || w.price > 1000000) || !hasPrice && w.price != 0:
		return no(5)
	case len(m.orders) == m.config.Orders:
		return no(7)
	case ofSide+w.qty > m.config.Total:
		return no(8)
	}
	m.spent[w.id]++
	m.orders = append(m.orders, api.Order{Id: w.id, Side: w.side, Type: w.orderType, Price: w.price, Rest: w.qty, Waiting: w.orderType == 4})
	return []api.Event{accepted(w.id, w.qty), m.call()}
}

func anyWish(dice *rand.Rand, ids int) wish {
	w := wish{kind: 1, id: dice.IntN(ids), side: 1 + dice.IntN(2), orderType: 1, qty: 1 + dice.IntN(9), price: 95 + dice.IntN(10)}
	switch dice.IntN(10) {
	case 0:
		w.kind = 2
	case 1:
		w.kind = 3
		w.qty = dice.IntN(5)
	case 2:
		w.kind = 4
		w.qty = dice.IntN(10)
	case 3, 4:
		w.orderType = 2 + dice.IntN(2)
		w.price = dice.IntN(10) / 9
	case 5:
		w.orderType = 4
	case 6:
		some := []int{0, 1, 3, 5, 1000000, 1000001, top}
		w.side, w.orderType = 1+dice.IntN(3), 1+dice.IntN(5)
		w.qty, w.price = some[dice.IntN(len(some))], some[dice.IntN(len(some))]
	}
	return w
}

func TestAgainstTheModel(t *testing.T) {
	dice := rand.New(rand.NewPCG(5, 6))
	for range 600 {
		c := plainConfig()
		c.Reference = 90 + dice.IntN(20)
		c.Orders = 1 + dice.IntN(24)
		c.Total = 1 + dice.IntN(150)
		m := &model{config: c, look: api.Look{Reference: c.Reference}, spent: map[int]int{}}
		p := start(t, c)
		for range 100 {
			w := anyWish(dice, 60)
			p.send(w.bytes(), m.obey(w)...)
			m.look.Seq = p.seq
			p.wantOrders(m.orders...)
			p.wantLook(m.look)
			wantMostVolume(t, m)
		}
	}
}

// wantMostVolume holds the call's volume against that of prices of all kinds,
// not of the candidates alone.
func wantMostVolume(t *testing.T, m *model) {
	t.Helper()
	call := m.call()
	for _, p := range []int{1, 2, 89, 1000000} {
		if m.v(p) > call.Qty {
			t.Fatalf("P10: orders %+v: V(%d) = %d, above that of the call's price, %+v", m.orders, p, m.v(p), call)
		}
	}
	for p := 90; p <= 110; p++ {
		if m.v(p) > call.Qty {
			t.Fatalf("P10: orders %+v: V(%d) = %d, above that of the call's price, %+v", m.orders, p, m.v(p), call)
		}
	}
}

// isCommand tells whether bytes are one, by their length and first byte, side and type.
func isCommand(b []byte) bool {
	if len(b) == 0 || b[0] < 1 || b[0] > 4 || len(b) != []int{0, 15, 5, 9, 5}[b[0]] {
		return false
	}
	return b[0] != 1 || (b[5] == 1 || b[5] == 2) && 1 <= b[6] && b[6] <= 4
}

// checkSend holds of any bytes at all.
func checkSend(t *testing.T, m *outcry.Market, b []byte) {
	t.Helper()
	before := m.Look()
	told := m.Send(b)
	events, errno, _ := outcry.Decode(told)
	if errno != api.OK {
		t.Fatalf("P4: Send(%v) = %v, which Decode does not read: %d", b, told, errno)
	}
	for i, e := range events {
		if e.Seq != before.Seq+1+i {
			t.Errorf("P4: Send(%v): %+v, behind the Seq %d", b, events, before.Seq)
		}
	}
	if seq := m.Look().Seq; seq != before.Seq+len(events) {
		t.Errorf("P8: Look().Seq is %d behind %d events, and was %d", seq, len(events), before.Seq)
	}
	malformed := slices.ContainsFunc(events, func(e api.Event) bool { return e.Reason == 1 })
	if malformed == isCommand(b) || malformed && (len(events) != 1 || events[0].Id != 0) {
		t.Errorf("P4: Send(%v): %+v", b, events)
	}
}

func TestSendOfAnyBytes(t *testing.T) {
	dice := rand.New(rand.NewPCG(7, 8))
	p := start(t, plainConfig())
	for range 30000 {
		b := make([]byte, []int{0, 1, 4, 5, 6, 8, 9, 10, 14, 15, 16, 40}[dice.IntN(12)])
		for i := range b {
			b[i] = byte(dice.IntN([]int{2, 6, 256}[dice.IntN(3)]))
		}
		// Time stays ahead of the opening.
		if len(b) == 5 && b[0] == 4 {
			clear(b[1:4])
			b[4] %= 10
		}
		checkSend(t, p.m, b)
	}
	for first := range 256 {
		for second := range 256 {
			checkSend(t, p.m, []byte{byte(first), byte(second)})
		}
	}
}

func FuzzSend(f *testing.F) {
	for _, c := range goodCommands() {
		f.Add(c, c)
	}
	f.Fuzz(func(t *testing.T, one, other []byte) {
		p := start(t, plainConfig())
		checkSend(t, p.m, one)
		checkSend(t, p.m, other)
		p.m.Orders()
	})
}

// sent are commands of which each makes another answer, accepted, rejected or malformed.
func sent() [][]byte {
	return [][]byte{
		newOrder(1, buy, limit, 4, 100), newOrder(1, buy, limit, 4, 100), newOrder(2, sell, atClose, 4, 100),
		newOrder(3, sell, market, 2, 0), reduce(1, 1), reduce(1, 0), cancel(9), tick(3), tick(3)[:3], nil, {9},
		append(cancel(1), 1), newOrder(4, 3, limit, 1, 1), cancel(1),
	}
}

func TestSendWritesNothingAndKeepsNothing(t *testing.T) {
	kept, spoiled := start(t, plainConfig()), start(t, plainConfig())
	for _, c := range sent() {
		room := append(slices.Clone(c), bytes.Repeat([]byte{77}, 40)...)
		before := slices.Clone(room)
		handed := room[:len(c)]
		told := spoiled.m.Send(handed)
		if !bytes.Equal(room, before) {
			t.Errorf("P2: Send(%v) wrote into what it was handed, or behind it", c)
		}
		if shares(room, told[:cap(told)]) {
			t.Errorf("P2: the answer of Send(%v) shares memory with its argument", c)
		}
		// With the room behind it or not, and whatever becomes of it later: the same answer.
		clear(room)
		if want := kept.m.Send(slices.Clip(slices.Clone(c))); !bytes.Equal(told, want) {
			t.Errorf("P2: Send(%v) = %v, and without room behind it %v", c, told, want)
		}
		if !slices.Equal(kept.m.Orders(), spoiled.m.Orders()) || kept.m.Look() != spoiled.m.Look() {
			t.Errorf("P2: what Send(%v) was handed is kept", c)
		}
	}
}

func TestWhatSendAndOrdersGiveIsNewMemory(t *testing.T) {
	whole, spoiled := start(t, plainConfig()), start(t, plainConfig())
	var told [][]byte
	var orders [][]api.Order
	for _, c := range sent() {
		want, got := whole.m.Send(c), spoiled.m.Send(c)
		if !bytes.Equal(got, want) {
			t.Errorf("P2: Send(%v) = %v, want %v: an earlier answer was written over", c, got, want)
		}
		wantOrders, gotOrders := whole.m.Orders(), spoiled.m.Orders()
		if !slices.Equal(gotOrders, wantOrders) {
			t.Errorf("P2: Orders() = %+v, want %+v: an earlier answer was written over", gotOrders, wantOrders)
		}
		told, orders = append(told, got), append(orders, gotOrders)
		for i := range got[:cap(got)] {
			got[:cap(got)][i] = 77
		}
		for i := range gotOrders[:cap(gotOrders)] {
			gotOrders[:cap(gotOrders)][i] = api.Order{Id: 77, Side: 77, Rest: 77}
		}
	}
	wantNoneShared(t, "Send", told...)
	wantNoneShared(t, "Orders", orders...)
}

// Two markets that are told the same things in turns answer the same, and a third one is none the wiser.
func TestMarketsShareNothing(t *testing.T) {
	one, other, idle := start(t, plainConfig()), start(t, plainConfig()), start(t, plainConfig())
	for _, c := range sent() {
		if a, b := one.m.Send(c), other.m.Send(c); !bytes.Equal(a, b) {
			t.Errorf("P2: Send(%v) = %v and %v, of two markets that were told the same", c, a, b)
		}
	}
	wantNew(t, idle.m, plainConfig())
}
