package outcry_test

import (
	"math/rand/v2"
	"slices"
	"testing"

	"outcry/api"
)

// model is the document's words over a plain list, with nothing kept in priority.
type model struct {
	config api.Config
	look   api.Look
	orders []api.Order // as they were accepted
	spent  map[int]int
	told   []api.Event // by the command that it is at
}

func newModel(c api.Config) *model {
	return &model{config: c, look: api.Look{Reference: c.Reference}, spent: map[int]int{}}
}

func (m *model) tell(events ...api.Event) { m.told = append(m.told, events...) }

func (m *model) sum(count func(o api.Order) bool) int {
	sum := 0
	for _, o := range m.orders {
		if count(o) {
			sum += o.Rest
		}
	}
	return sum
}

func (m *model) d(p int) int {
	return m.sum(func(o api.Order) bool { return !o.Waiting && o.Side == 1 && (o.Price == 0 || o.Price >= p) })
}

func (m *model) s(p int) int {
	return m.sum(func(o api.Order) bool { return !o.Waiting && o.Side == 2 && (o.Price == 0 || o.Price <= p) })
}

func (m *model) v(p int) int { return min(m.d(p), m.s(p)) }

func (m *model) differ(p int) int { return max(m.d(p)-m.s(p), m.s(p)-m.d(p)) }

// call gives what is indicated.
func (m *model) call() api.Event {
	prices := []int{m.look.Reference}
	for _, o := range m.orders {
		if o.Price != 0 && !o.Waiting {
			prices = append(prices, o.Price)
		}
	}
	most := 0
	for _, p := range prices {
		most = max(most, m.v(p))
	}
	if most == 0 {
		return indicated(0, 0, 0)
	}
	prices = slices.DeleteFunc(prices, func(p int) bool { return m.v(p) != most })
	low := m.differ(prices[0])
	for _, p := range prices {
		low = min(low, m.differ(p))
	}
	prices = slices.DeleteFunc(prices, func(p int) bool { return m.differ(p) != low })
	slices.Sort(prices)
	price := m.oneOf(prices)
	return indicated(price, m.v(price), int64(m.d(price))-int64(m.s(price)))
}

func (m *model) oneOf(prices []int) int {
	moreD, moreS := 0, 0
	nearest := prices[0]
	for _, p := range prices {
		if m.d(p) > m.s(p) {
			moreD++
		}
		if m.s(p) > m.d(p) {
			moreS++
		}
		far := func(p int) int { return max(p-m.look.Reference, m.look.Reference-p) }
		if far(p) < far(nearest) {
			nearest = p
		}
	}
	switch len(prices) {
	case moreD:
		return prices[len(prices)-1]
	case moreS:
		return prices[0]
	}
	return nearest
}

func isAhead(one, other api.Order) bool {
	switch {
	case one.Price == 0 || other.Price == 0:
		return one.Price == 0 && other.Price != 0
	case one.Side == 1:
		return one.Price > other.Price
	}
	return one.Price < other.Price
}

// first gives the place of a side's first order in priority, or -1.
func (m *model) first(side int) int {
	first := -1
	for i, o := range m.orders {
		if o.Side == side && !o.Waiting && (first < 0 || isAhead(o, m.orders[first])) {
			first = i
		}
	}
	return first
}

func (m *model) find(id int) int {
	return slices.IndexFunc(m.orders, func(o api.Order) bool { return o.Id == id })
}

// take takes a quantity off an order, which is not live any more without a rest.
func (m *model) take(id, qty int) {
	at := m.find(id)
	m.orders[at].Rest -= qty
	if m.orders[at].Rest == 0 {
		m.orders = slices.Delete(m.orders, at, at+1)
	}
}

func (m *model) trade(buyer, seller, qty, price int) {
	m.tell(traded(buyer, seller, qty, price))
	m.take(buyer, qty)
	m.take(seller, qty)
	m.look.Reference = price
}

func (m *model) cancel(id int) {
	rest := m.orders[m.find(id)].Rest
	m.tell(cancelled(id, rest))
	m.take(id, rest)
}

func (m *model) isCall() bool { return m.look.Phase == 0 || m.look.Phase == 2 }

// indicate tells the call, if there is one.
func (m *model) indicate() {
	if m.isCall() {
		m.tell(m.call())
	}
}

func (m *model) tick(time int) {
	if time <= m.look.Time {
		return
	}
	m.look.Time = time
	if m.look.Phase == 0 && time >= m.config.Open {
		m.uncross()
		m.turn()
		m.cancelAll(func(o api.Order) bool { return o.Type == 2 || o.Type == 3 })
	}
	if m.look.Phase == 1 && time >= m.config.Close {
		m.turn()
		for i := range m.orders {
			m.orders[i].Waiting = false
		}
		m.indicate()
	}
	if m.look.Phase == 2 && time >= m.config.End {
		m.uncross()
		m.turn()
		m.cancelAll(func(api.Order) bool { return true })
	}
}

func (m *model) turn() {
	m.look.Phase++
	m.tell(turned(m.look.Phase))
}

func (m *model) cancelAll(these func(o api.Order) bool) {
	for _, o := range slices.Clone(m.orders) {
		if these(o) {
			m.cancel(o.Id)
		}
	}
}

func (m *model) uncross() {
	call := m.call()
	m.tell(uncrossed(call.Price, call.Qty, call.Surplus))
	for left := call.Qty; left > 0; {
		buyer, seller := m.orders[m.first(1)], m.orders[m.first(2)]
		qty := min(buyer.Rest, seller.Rest, left)
		m.trade(buyer.Id, seller.Id, qty, call.Price)
		left -= qty
	}
}

// meet trades the order that was accepted last.
func (m *model) meet() {
	comes := m.orders[len(m.orders)-1]
	for m.find(comes.Id) >= 0 {
		at := m.first(3 - comes.Side)
		if at < 0 {
			break
		}
		resting := m.orders[at]
		if comes.Type == 1 && (comes.Side == 1 && comes.Price < resting.Price || comes.Side == 2 && comes.Price > resting.Price) {
			break
		}
		qty := min(m.orders[m.find(comes.Id)].Rest, resting.Rest)
		if comes.Side == 1 {
			m.trade(comes.Id, resting.Id, qty, resting.Price)
		} else {
			m.trade(resting.Id, comes.Id, qty, resting.Price)
		}
	}
	if comes.Type == 2 && m.find(comes.Id) >= 0 {
		m.cancel(comes.Id)
	}
}

// wish is a command ahead of its bytes.
type wish struct{ kind, id, side, orderType, qty, price int }

func (w wish) bytes() []byte {
	switch w.kind {
	case 1:
		return newOrder(w.id, w.side, w.orderType, w.qty, w.price)
	case 2:
		return cancel(w.id)
	case 3:
		return reduce(w.id, w.qty)
	}
	return tick(w.qty)
}

func (m *model) obey(w wish) []api.Event {
	m.told = nil
	at := m.find(w.id)
	switch {
	case w.kind == 1:
		m.accept(w)
	case w.kind == 4:
		m.tick(w.qty)
	case at < 0:
		m.tell(rejected(w.id, 3))
	case w.kind == 3 && w.qty == 0:
		m.tell(rejected(w.id, 4))
	case w.kind == 3 && w.qty < m.orders[at].Rest:
		m.orders[at].Rest -= w.qty
		m.tell(reduced(w.id, w.qty))
		m.indicate()
	default:
		m.cancel(w.id)
		m.indicate()
	}
	m.look.Seq += len(m.told)
	return m.told
}

func (m *model) accept(w wish) {
	no := func(reason api.Reason) { m.tell(rejected(w.id, reason)) }
	ofSide := m.sum(func(o api.Order) bool { return o.Side == w.side })
	hasPrice := w.orderType == 1 || w.orderType == 4
	switch {
	case w.side < 1 || w.side > 2 || w.orderType < 1 || w.orderType > 4:
		m.tell(rejected(0, 1))
	case m.spent[w.id] > 0:
		no(2)
	case w.qty == 0:
		no(4)
	case hasPrice && (w.price == 0 || w.price > 1000000) || !hasPrice && w.price != 0:
		no(5)
	case m.look.Phase == 3 || w.orderType == 3 && m.look.Phase != 0:
		no(6)
	case len(m.orders) == m.config.Orders:
		no(7)
	case ofSide+w.qty > m.config.Total:
		no(8)
	default:
		waits := w.orderType == 4 && m.look.Phase < 2
		m.spent[w.id]++
		m.orders = append(m.orders, api.Order{Id: w.id, Side: w.side, Type: w.orderType, Price: w.price, Rest: w.qty, Waiting: waits})
		m.tell(accepted(w.id, w.qty))
		if m.look.Phase == 1 && !waits {
			m.meet()
		}
		m.indicate()
	}
}

// anyWish draws the nth command, at a time: mostly good ones, of few ids and prices, so that they meet.
func anyWish(dice *rand.Rand, n, time int) wish {
	w := wish{kind: 1, id: n, side: 1 + dice.IntN(2), orderType: 1, qty: 1 + dice.IntN(9), price: 95 + dice.IntN(10)}
	if dice.IntN(20) == 0 {
		w.id = dice.IntN(n + 1)
	}
	late := max(0, n-dice.IntN(12))
	switch dice.IntN(10) {
	case 0:
		w.kind, w.id = 2, late
	case 1:
		w.kind, w.id, w.qty = 3, late, dice.IntN(5)
	case 2:
		w.kind = 4
		w.qty = anyTime(dice, time)
	case 3, 4:
		w.orderType = 2 + dice.IntN(2)
		w.price = dice.IntN(10) / 9
	case 5:
		w.orderType = 4
	case 6:
		some := []int{0, 1, 3, 5, 1000000, 1000001, top}
		w.side, w.orderType = 1+dice.IntN(3), 1+dice.IntN(5)
		w.qty, w.price = some[dice.IntN(len(some))], some[dice.IntN(len(some))]
	}
	return w
}

// anyTime is mostly a little behind a time, and now and then ahead of it, at it, or far behind it.
func anyTime(dice *rand.Rand, time int) int {
	switch dice.IntN(40) {
	case 0, 1, 2:
		return dice.IntN(time + 1)
	case 3:
		return time + dice.IntN(40)
	}
	return min(time+dice.IntN(4), top)
}

// anyConfig has limits that are now and then met, and phases of many lengths.
func anyConfig(dice *rand.Rand) api.Config {
	opens := 1 + dice.IntN(8)
	closes := opens + 1 + dice.IntN(8)
	return api.Config{
		Reference: 90 + dice.IntN(20), Open: opens, Close: closes, End: closes + 1 + dice.IntN(8),
		Orders: 1 + dice.IntN(24), Total: 1 + dice.IntN(150),
	}
}

func TestAgainstTheModel(t *testing.T) {
	dice := rand.New(rand.NewPCG(5, 6))
	seen := map[[2]int]int{} // by phase and kind of event
	for range 1500 {
		c := anyConfig(dice)
		m, p := newModel(c), start(t, c)
		for n := range 150 {
			stepBoth(p, m, anyWish(dice, n, m.look.Time))
			for _, e := range m.told {
				seen[[2]int{m.look.Phase, e.Kind}]++
			}
		}
	}
	for phase, kinds := range [][]int{{1, 2, 4, 5, 6}, {1, 2, 3, 4, 5, 7, 8}, {1, 2, 4, 5, 6, 8}, {2, 3, 4, 7, 8}} {
		for _, kind := range kinds {
			if n := seen[[2]int{phase, kind}]; n < 200 {
				t.Errorf("the drawn commands made %d events of the kind %d in the phase %d: too few", n, kind, phase)
			}
		}
	}
}

// stepBoth sends a command, and wants what the model answers.
func stepBoth(p *play, m *model, w wish) {
	p.t.Helper()
	p.send(w.bytes(), m.obey(w)...)
	p.wantOrders(m.orders...)
	p.wantLook(m.look)
}

// FuzzAgainstTheModel reads six bytes as a command.
func FuzzAgainstTheModel(f *testing.F) {
	f.Add([]byte("\x01\x01\x01\x01\x05\x64\x01\x02\x02\x01\x03\x63\x04\x00\x00\x00\x0a\x00\x01\x03\x02\x02\x05\x00\x04\x00\x00\x00\x1e\x00"))
	f.Fuzz(func(t *testing.T, b []byte) {
		m, p := newModel(plainConfig()), start(t, plainConfig())
		for len(b) >= 6 {
			w := wish{kind: 1 + int(b[0])%4, id: int(b[1]), side: int(b[2]) % 4, orderType: int(b[3]) % 6, qty: int(b[4]), price: int(b[5])}
			stepBoth(p, m, w)
			b = b[6:]
		}
	})
}
