package outcry_test

import (
	"bytes"
	"testing"

	"outcry/api"
)

func TestExamplesOneAndTwo(t *testing.T) {
	p := start(t, plainConfig())
	got := p.m.Send([]byte{1, 0, 0, 0, 7, 1, 1, 0, 0, 0, 5, 0, 0, 0, 0x65})
	want := []byte{
		1, 0, 0, 0, 1, 0, 0, 0, 7, 0, 0, 0, 5,
		6, 0, 0, 0, 2, 0, 0, 0, 0, 0, 0, 0, 0, 0, 0, 0, 0, 0, 0, 0, 0}
	if !bytes.Equal(got, want) {
		t.Fatalf("P5: example 1: %v, want %v", got, want)
	}
	got = p.m.Send([]byte{1, 0, 0, 0, 8, 2, 1, 0, 0, 0, 3, 0, 0, 0, 99})
	want = []byte{
		1, 0, 0, 0, 3, 0, 0, 0, 8, 0, 0, 0, 3,
		6, 0, 0, 0, 4, 0, 0, 0, 101, 0, 0, 0, 3, 0, 0, 0, 0, 0, 0, 0, 2}
	if !bytes.Equal(got, want) {
		t.Fatalf("P5: example 2: %v, want %v", got, want)
	}
}

func TestExampleNine(t *testing.T) {
	p := start(t, plainConfig())
	p.refuse(newOrder(1, 3, api.Limit, 1, 1), 0, 1)
	p.send(newOrder(7, api.Buy, api.Limit, 5, 101), accepted(7, 5), indicated(0, 0, 0))
	p.refuse(newOrder(7, api.Buy, api.Limit, 5, 101), 7, 2)
	p.refuse(cancel(99), 99, 3)
	p.send(tick(0))
	p.send(tick(5))
	p.send(tick(5))
}

func TestIndicatedBehindEachCommand(t *testing.T) {
	p := start(t, plainConfig())
	p.send(newOrder(1, api.Buy, api.Limit, 10, 100), accepted(1, 10), indicated(0, 0, 0))
	p.send(newOrder(2, api.Sell, api.Limit, 8, 99), accepted(2, 8), indicated(100, 8, 2))
	p.send(newOrder(3, api.Sell, api.Moo, 5, 0), accepted(3, 5), indicated(99, 10, -3))
	// Below the rest, of the whole rest, and above it.
	p.send(reduce(3, 4), reduced(3, 4), indicated(100, 9, 1))
	p.send(reduce(2, 7), reduced(2, 7), indicated(100, 2, 8))
	p.send(reduce(2, 1), cancelled(2, 1), indicated(100, 1, 9))
	p.send(reduce(1, 11), cancelled(1, 10), indicated(0, 0, 0))
	p.send(newOrder(4, api.Buy, api.Limit, 2, 98), accepted(4, 2), indicated(98, 1, 1))
	p.send(reduce(4, 1), reduced(4, 1), indicated(98, 1, 0))
	p.send(cancel(3), cancelled(3, 1), indicated(0, 0, 0))
	p.send(reduce(4, top), cancelled(4, 1), indicated(0, 0, 0))
	p.wantOrders()
}

func TestReduceByEachQuantity(t *testing.T) {
	for by := 1; by <= 8; by++ {
		p := start(t, plainConfig())
		p.send(newOrder(1, api.Buy, api.Limit, 5, 101), accepted(1, 5), indicated(0, 0, 0))
		if by >= 5 {
			p.send(reduce(1, by), cancelled(1, 5), indicated(0, 0, 0))
			p.wantOrders()
			continue
		}
		p.send(reduce(1, by), reduced(1, by), indicated(0, 0, 0))
		p.wantOrders(api.Order{Id: 1, Side: 1, Type: 1, Price: 101, Rest: 5 - by})
		p.send(cancel(1), cancelled(1, 5-by), indicated(0, 0, 0))
		p.wantOrders()
	}
}

func TestWaitingOrdersAreCountedNowhere(t *testing.T) {
	p := start(t, plainConfig())
	// Two that would trade, and would be candidates.
	p.send(newOrder(1, api.Buy, api.Loc, 9, 130), accepted(1, 9), indicated(0, 0, 0))
	p.send(newOrder(2, api.Sell, api.Loc, 9, 70), accepted(2, 9), indicated(0, 0, 0))
	p.send(newOrder(3, api.Buy, api.Limit, 5, 120), accepted(3, 5), indicated(0, 0, 0))
	p.send(newOrder(4, api.Sell, api.Limit, 4, 80), accepted(4, 4), indicated(120, 4, 1))
	p.send(newOrder(5, api.Sell, api.Loc, 3, 110), accepted(5, 3), indicated(120, 4, 1))
	p.wantOrders(
		api.Order{Id: 1, Side: 1, Type: 4, Price: 130, Rest: 9, Waiting: true},
		api.Order{Id: 2, Side: 2, Type: 4, Price: 70, Rest: 9, Waiting: true},
		api.Order{Id: 3, Side: 1, Type: 1, Price: 120, Rest: 5},
		api.Order{Id: 4, Side: 2, Type: 1, Price: 80, Rest: 4},
		api.Order{Id: 5, Side: 2, Type: 4, Price: 110, Rest: 3, Waiting: true})
	p.send(reduce(1, 4), reduced(1, 4), indicated(120, 4, 1))
	p.send(reduce(1, 5), cancelled(1, 5), indicated(120, 4, 1))
	p.send(reduce(2, 10), cancelled(2, 9), indicated(120, 4, 1))
	p.send(cancel(5), cancelled(5, 3), indicated(120, 4, 1))
	p.wantOrders(
		api.Order{Id: 3, Side: 1, Type: 1, Price: 120, Rest: 5},
		api.Order{Id: 4, Side: 2, Type: 1, Price: 80, Rest: 4})
}

// What is to be seen of orders in a call: their side, type, quantity and price.
type put [4]int

const (
	buy, sell                   = api.Buy, api.Sell
	limit, market, moo, atClose = api.Limit, api.Market, api.Moo, api.Loc
)

var calls = []struct {
	rule      string
	reference int
	orders    []put
	want      api.Event
}{
	{"no volume: no orders of the other side", 100, []put{{buy, limit, 5, 100}}, indicated(0, 0, 0)},
	{"no volume: only Sell", 100, []put{{sell, limit, 5, 100}, {sell, limit, 3, 90}}, indicated(0, 0, 0)},
	{"no volume: they do not meet", 100, []put{{buy, limit, 5, 100}, {sell, limit, 5, 101}}, indicated(0, 0, 0)},
	{"no volume: far apart", 500, []put{{buy, limit, 5, 1}, {sell, limit, 5, 1000000}}, indicated(0, 0, 0)},
	{"no volume: only waiting on one side", 100, []put{{buy, limit, 5, 100}, {sell, atClose, 5, 90}}, indicated(0, 0, 0)},

	{"the only price with a volume", 1, []put{{buy, limit, 5, 100}, {sell, limit, 5, 100}}, indicated(100, 5, 0)},
	{"the only price, below the reference", 1000000, []put{{buy, limit, 5, 100}, {sell, limit, 7, 100}}, indicated(100, 5, -2)},
	{"at both ends of all prices", 500, []put{{buy, limit, 5, 1000000}, {sell, limit, 5, 1}}, indicated(500, 5, 0)},
	{"at the lowest price", 1000000, []put{{buy, limit, 5, 1}, {sell, limit, 5, 1}}, indicated(1, 5, 0)},
	{"at the highest price", 1, []put{{buy, limit, 5, 1000000}, {sell, limit, 6, 1000000}}, indicated(1000000, 5, -1)},

	{"the greatest volume, above the reference", 100, []put{{buy, limit, 9, 110}, {sell, limit, 2, 100}, {sell, limit, 6, 108}}, indicated(110, 8, 1)},
	{"the greatest volume, below the reference", 100, []put{{sell, limit, 9, 90}, {buy, limit, 2, 100}, {buy, limit, 6, 92}}, indicated(90, 8, -1)},
	// At 99 D is 5 and S is 4, at 100 D is 5 and S is 34.
	{"the greatest volume, though the difference is greater there", 99, []put{{buy, limit, 5, 100}, {sell, limit, 4, 99}, {sell, limit, 30, 100}}, indicated(100, 5, -29)},
	{"the greatest volume, though the difference is greater there, of Buy", 101, []put{{sell, limit, 5, 100}, {buy, limit, 4, 101}, {buy, limit, 30, 100}}, indicated(100, 5, 29)},
	{"the greatest volume, in the middle", 50, []put{{buy, limit, 2, 105}, {buy, limit, 2, 103}, {buy, limit, 2, 101}, {sell, limit, 2, 101}, {sell, limit, 2, 103}, {sell, limit, 2, 105}}, indicated(103, 4, 0)},

	{"the highest of those with the greatest volume", 100, []put{{buy, limit, 5, 104}, {buy, limit, 5, 102}, {sell, limit, 7, 101}, {sell, limit, 3, 103}}, indicated(102, 7, 3)},
	{"the least difference, of Buy", 100, []put{{buy, limit, 5, 110}, {buy, limit, 4, 105}, {buy, limit, 3, 100}, {sell, limit, 5, 100}}, indicated(110, 5, 0)},
	{"the least difference, of Sell", 100, []put{{sell, limit, 5, 90}, {sell, limit, 4, 95}, {sell, limit, 3, 100}, {buy, limit, 5, 100}}, indicated(90, 5, 0)},
	{"the least difference, and then the lowest", 120, []put{{buy, limit, 4, 110}, {buy, limit, 6, 105}, {sell, limit, 4, 100}, {sell, limit, 5, 108}}, indicated(108, 4, -5)},

	{"all of Buy: the highest", 90, []put{{buy, limit, 6, 102}, {sell, limit, 5, 98}}, indicated(102, 5, 1)},
	{"all of Buy: the highest, ahead of the reference", 98, []put{{buy, limit, 6, 102}, {sell, limit, 5, 98}}, indicated(102, 5, 1)},
	{"all of Buy: the reference is the highest", 110, []put{{buy, market, 6, 0}, {sell, limit, 5, 98}}, indicated(110, 5, 1)},
	{"all of Sell: the lowest", 110, []put{{buy, limit, 5, 102}, {sell, limit, 6, 98}}, indicated(98, 5, -1)},
	{"all of Sell: the lowest, ahead of the reference", 102, []put{{buy, limit, 5, 102}, {sell, limit, 6, 98}}, indicated(98, 5, -1)},
	{"all of Sell: the reference is the lowest", 90, []put{{sell, market, 6, 0}, {buy, limit, 5, 102}}, indicated(90, 5, -1)},

	{"no surplus: the reference between", 100, []put{{buy, limit, 5, 102}, {sell, limit, 5, 98}}, indicated(100, 5, 0)},
	{"no surplus: the reference below", 90, []put{{buy, limit, 5, 102}, {sell, limit, 5, 98}}, indicated(98, 5, 0)},
	{"no surplus: the reference above", 110, []put{{buy, limit, 5, 102}, {sell, limit, 5, 98}}, indicated(102, 5, 0)},
	{"no surplus: the reference at the lower one", 98, []put{{buy, limit, 5, 102}, {sell, limit, 5, 98}}, indicated(98, 5, 0)},
	{"no surplus: the reference at the higher one", 102, []put{{buy, limit, 5, 102}, {sell, limit, 5, 98}}, indicated(102, 5, 0)},
	// At 100 D is 7 and S is 5, at 104 D is 5 and S is 7.
	{"a surplus of either side: the nearest, below", 90, []put{{buy, limit, 5, 104}, {buy, limit, 2, 100}, {sell, limit, 5, 100}, {sell, limit, 2, 104}}, indicated(100, 5, 2)},
	{"a surplus of either side: the nearest, above", 110, []put{{buy, limit, 5, 104}, {buy, limit, 2, 100}, {sell, limit, 5, 100}, {sell, limit, 2, 104}}, indicated(104, 5, -2)},
	{"less surplus at the reference between", 101, []put{{buy, limit, 5, 104}, {buy, limit, 2, 100}, {sell, limit, 5, 100}, {sell, limit, 2, 104}}, indicated(101, 5, 0)},

	{"none has a price", 100, []put{{buy, market, 10, 0}, {sell, market, 4, 0}}, indicated(100, 4, 6)},
	{"none has a price, more of Sell", 777, []put{{buy, moo, 3, 0}, {sell, market, 4, 0}}, indicated(777, 3, -1)},
	{"none has a price, and no Sell", 100, []put{{buy, market, 10, 0}, {buy, moo, 4, 0}}, indicated(0, 0, 0)},
	{"Buy without a price takes any", 50, []put{{buy, moo, 5, 0}, {sell, limit, 2, 60}}, indicated(60, 2, 3)},
	{"Sell without a price takes any", 50, []put{{sell, market, 5, 0}, {buy, limit, 2, 40}}, indicated(40, 2, -3)},
	{"Buy without a price, at the highest", 1, []put{{buy, market, 5, 0}, {sell, limit, 5, 1000000}}, indicated(1000000, 5, 0)},
	{"Sell without a price, at the lowest", 1000000, []put{{sell, moo, 5, 0}, {buy, limit, 5, 1}}, indicated(1, 5, 0)},
	{"without and with a price on both sides", 100, []put{{buy, market, 2, 0}, {buy, limit, 3, 101}, {sell, moo, 1, 0}, {sell, limit, 5, 99}}, indicated(99, 5, -1)},
	{"waiting ones are no candidates", 100, []put{{buy, limit, 6, 110}, {sell, limit, 5, 90}, {buy, atClose, 1, 120}, {sell, atClose, 4, 80}}, indicated(110, 5, 1)},
}

func TestTheCallsPrice(t *testing.T) {
	for _, c := range calls {
		t.Run(c.rule, func(t *testing.T) {
			wantCall(t, c.reference, c.orders, c.want)
			// The order in which they come does not matter.
			for i, k := 0, len(c.orders)-1; i < k; i, k = i+1, k-1 {
				c.orders[i], c.orders[k] = c.orders[k], c.orders[i]
			}
			wantCall(t, c.reference, c.orders, c.want)
		})
	}
}

// wantCall looks at what is indicated behind the last order.
func wantCall(t *testing.T, reference int, orders []put, want api.Event) {
	t.Helper()
	config := plainConfig()
	config.Reference, config.Orders = reference, 24
	p := start(t, config)
	last := len(orders) - 1
	for id, o := range orders[:last] {
		p.m.Send(newOrder(id, o[0], o[1], o[2], o[3]))
		p.seq += 2
	}
	o := orders[last]
	p.send(newOrder(last, o[0], o[1], o[2], o[3]), accepted(last, o[2]), want)
}

func TestOrdersAsTheyWereAccepted(t *testing.T) {
	p := start(t, plainConfig())
	nothing := indicated(0, 0, 0)
	p.send(newOrder(9, sell, limit, 1, 120), accepted(9, 1), nothing)
	p.send(newOrder(4, buy, limit, 2, 80), accepted(4, 2), nothing)
	p.send(newOrder(7, sell, atClose, 3, 110), accepted(7, 3), nothing)
	p.send(newOrder(1, buy, limit, 4, 90), accepted(1, 4), nothing)
	p.send(newOrder(8, buy, atClose, 5, 120), accepted(8, 5), nothing)
	want := []api.Order{
		{Id: 9, Side: 2, Type: 1, Price: 120, Rest: 1},
		{Id: 4, Side: 1, Type: 1, Price: 80, Rest: 2},
		{Id: 7, Side: 2, Type: 4, Price: 110, Rest: 3, Waiting: true},
		{Id: 1, Side: 1, Type: 1, Price: 90, Rest: 4},
		{Id: 8, Side: 1, Type: 4, Price: 120, Rest: 5, Waiting: true},
	}
	p.wantOrders(want...)
	p.wantOrders(want...)
	p.send(cancel(4), cancelled(4, 2), nothing)
	p.send(newOrder(2, sell, limit, 6, 100), accepted(2, 6), nothing)
	p.send(reduce(7, 2), reduced(7, 2), nothing)
	p.refuse(newOrder(4, buy, limit, 2, 80), 4, 2)
	p.wantOrders(
		api.Order{Id: 9, Side: 2, Type: 1, Price: 120, Rest: 1},
		api.Order{Id: 7, Side: 2, Type: 4, Price: 110, Rest: 1, Waiting: true},
		api.Order{Id: 1, Side: 1, Type: 1, Price: 90, Rest: 4},
		api.Order{Id: 8, Side: 1, Type: 4, Price: 120, Rest: 5, Waiting: true},
		api.Order{Id: 2, Side: 2, Type: 1, Price: 100, Rest: 6})
}

func TestEachTypeInOrders(t *testing.T) {
	p := start(t, plainConfig())
	p.send(newOrder(1, buy, moo, 1, 0), accepted(1, 1), indicated(0, 0, 0))
	p.send(newOrder(2, buy, market, 2, 0), accepted(2, 2), indicated(0, 0, 0))
	p.send(newOrder(3, buy, atClose, 3, 30), accepted(3, 3), indicated(0, 0, 0))
	p.send(newOrder(4, buy, limit, 4, 40), accepted(4, 4), indicated(0, 0, 0))
	p.send(newOrder(5, sell, moo, 5, 0), accepted(5, 5), indicated(40, 5, 2))
	p.wantOrders(
		api.Order{Id: 1, Side: 1, Type: 3, Rest: 1},
		api.Order{Id: 2, Side: 1, Type: 2, Rest: 2},
		api.Order{Id: 3, Side: 1, Type: 4, Price: 30, Rest: 3, Waiting: true},
		api.Order{Id: 4, Side: 1, Type: 1, Price: 40, Rest: 4},
		api.Order{Id: 5, Side: 2, Type: 3, Rest: 5})
}

func TestTicksAheadOfTheOpening(t *testing.T) {
	p := start(t, plainConfig())
	at := func(time, seq int) {
		t.Helper()
		p.wantLook(api.Look{Phase: 0, Time: time, Reference: 100, Seq: seq})
	}
	p.send(tick(0))
	at(0, 0)
	p.send(tick(1))
	at(1, 0)
	p.send(tick(1))
	p.send(tick(0))
	at(1, 0)
	p.send(newOrder(1, buy, limit, 5, 101), accepted(1, 5), indicated(0, 0, 0))
	at(1, 2)
	p.send(tick(9))
	at(9, 2)
	p.send(tick(8))
	at(9, 2)
	p.refuse(tick(9)[:4], 0, 1)
	at(9, 3)
	p.send(newOrder(2, sell, limit, 5, 101), accepted(2, 5), indicated(101, 5, 0))
	// What is indicated is not yet the reference.
	at(9, 5)
	p.wantOrders(
		api.Order{Id: 1, Side: 1, Type: 1, Price: 101, Rest: 5},
		api.Order{Id: 2, Side: 2, Type: 1, Price: 101, Rest: 5})
}

func TestTheLastTickAheadOfALateOpening(t *testing.T) {
	c := plainConfig()
	c.Open, c.Close, c.End = 999998, 999999, 1000000
	p := start(t, c)
	p.send(tick(999997))
	p.wantLook(api.Look{Phase: 0, Time: 999997, Reference: 100, Seq: 0})
	p.send(tick(65536))
	p.wantLook(api.Look{Phase: 0, Time: 999997, Reference: 100, Seq: 0})
}
