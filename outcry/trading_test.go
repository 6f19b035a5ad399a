package outcry_test

import (
	"testing"

	"outcry/api"
)

// meeting is an order that comes in in Trading, with the id 9, behind others
// with the ids 1, 2, .., none of which trade among themselves.
type meeting struct {
	rule    string
	resting []put
	comes   put
	trades  []api.Event
	left    map[int]int // by id
}

var meetings = []meeting{
	{"Buy meets nothing", nil, put{buy, limit, 5, 100}, nil, map[int]int{9: 5}},
	{"Sell meets nothing", nil, put{sell, limit, 5, 100}, nil, map[int]int{9: 5}},
	{"a Market order to Buy meets nothing", nil, put{buy, market, 5, 0}, nil, map[int]int{9: 5}},
	{"a Market order to Sell meets nothing", nil, put{sell, market, 5, 0}, nil, map[int]int{9: 5}},
	{"Buy meets only its own side", []put{{buy, limit, 3, 100}}, put{buy, limit, 5, 120}, nil, map[int]int{1: 3, 9: 5}},
	{"Sell meets only its own side", []put{{sell, limit, 3, 100}}, put{sell, market, 5, 0}, nil, map[int]int{1: 3, 9: 5}},
	{"Buy one below the best price", []put{{sell, limit, 3, 101}}, put{buy, limit, 3, 100}, nil, map[int]int{1: 3, 9: 3}},
	{"Sell one above the best price", []put{{buy, limit, 3, 99}}, put{sell, limit, 3, 100}, nil, map[int]int{1: 3, 9: 3}},

	{"Buy at the best price", []put{{sell, limit, 3, 100}}, put{buy, limit, 3, 100}, []api.Event{traded(9, 1, 3, 100)}, nil},
	{"Sell at the best price", []put{{buy, limit, 3, 100}}, put{sell, limit, 3, 100}, []api.Event{traded(1, 9, 3, 100)}, nil},
	{"Buy above the best price, at which it trades", []put{{sell, limit, 3, 98}}, put{buy, limit, 3, 105}, []api.Event{traded(9, 1, 3, 98)}, nil},
	{"Sell below the best price, at which it trades", []put{{buy, limit, 3, 105}}, put{sell, limit, 3, 98}, []api.Event{traded(1, 9, 3, 105)}, nil},
	{"more rests than Buy wants", []put{{sell, limit, 8, 98}}, put{buy, limit, 3, 98}, []api.Event{traded(9, 1, 3, 98)}, map[int]int{1: 5}},
	{"more rests than Sell wants", []put{{buy, limit, 8, 98}}, put{sell, limit, 3, 98}, []api.Event{traded(1, 9, 3, 98)}, map[int]int{1: 5}},
	{"the rest of Buy rests", []put{{sell, limit, 3, 98}}, put{buy, limit, 8, 99}, []api.Event{traded(9, 1, 3, 98)}, map[int]int{9: 5}},
	{"the rest of Sell rests", []put{{buy, limit, 3, 98}}, put{sell, limit, 8, 97}, []api.Event{traded(1, 9, 3, 98)}, map[int]int{9: 5}},
	{"a Market order to Buy takes the highest price", []put{{sell, limit, 3, 1000000}}, put{buy, market, 3, 0}, []api.Event{traded(9, 1, 3, 1000000)}, nil},
	{"a Market order to Sell takes the lowest price", []put{{buy, limit, 3, 1}}, put{sell, market, 3, 0}, []api.Event{traded(1, 9, 3, 1)}, nil},
	{"the rest of a Market order to Buy", []put{{sell, limit, 3, 98}}, put{buy, market, 8, 0}, []api.Event{traded(9, 1, 3, 98)}, map[int]int{9: 5}},
	{"the rest of a Market order to Sell", []put{{buy, limit, 3, 98}}, put{sell, market, 4, 0}, []api.Event{traded(1, 9, 3, 98)}, map[int]int{9: 1}},
	{"a Market order that leaves something", []put{{buy, limit, 3, 98}}, put{sell, market, 2, 0}, []api.Event{traded(1, 9, 2, 98)}, map[int]int{1: 1}},

	{"Buy at several prices, to its own", []put{{sell, limit, 2, 103}, {sell, limit, 2, 101}, {sell, limit, 2, 104}, {sell, limit, 2, 102}}, put{buy, limit, 9, 103},
		[]api.Event{traded(9, 2, 2, 101), traded(9, 4, 2, 102), traded(9, 1, 2, 103)}, map[int]int{3: 2, 9: 3}},
	{"Sell at several prices, to its own", []put{{buy, limit, 2, 97}, {buy, limit, 2, 99}, {buy, limit, 2, 96}, {buy, limit, 2, 98}}, put{sell, limit, 9, 97},
		[]api.Event{traded(2, 9, 2, 99), traded(4, 9, 2, 98), traded(1, 9, 2, 97)}, map[int]int{3: 2, 9: 3}},
	{"Buy till it has no rest", []put{{sell, limit, 2, 103}, {sell, limit, 2, 101}, {sell, limit, 2, 102}}, put{buy, limit, 3, 200},
		[]api.Event{traded(9, 2, 2, 101), traded(9, 3, 1, 102)}, map[int]int{1: 2, 3: 1}},
	{"Sell till it has no rest, with the last order", []put{{buy, limit, 2, 97}, {buy, limit, 2, 99}, {buy, limit, 2, 98}}, put{sell, limit, 4, 1},
		[]api.Event{traded(2, 9, 2, 99), traded(3, 9, 2, 98)}, map[int]int{1: 2}},
	{"a Market order to Buy takes all", []put{{sell, limit, 2, 999999}, {sell, limit, 2, 1}, {sell, limit, 2, 1000000}}, put{buy, market, 7, 0},
		[]api.Event{traded(9, 2, 2, 1), traded(9, 1, 2, 999999), traded(9, 3, 2, 1000000)}, map[int]int{9: 1}},
	{"a Market order to Sell takes all", []put{{buy, limit, 2, 2}, {buy, limit, 2, 1000000}, {buy, limit, 2, 1}}, put{sell, market, 7, 0},
		[]api.Event{traded(2, 9, 2, 1000000), traded(1, 9, 2, 2), traded(3, 9, 2, 1)}, map[int]int{9: 1}},
	{"of one price of Sell the first that was accepted", []put{{sell, limit, 2, 101}, {sell, limit, 2, 100}, {sell, limit, 2, 101}, {sell, limit, 2, 100}}, put{buy, limit, 7, 101},
		[]api.Event{traded(9, 2, 2, 100), traded(9, 4, 2, 100), traded(9, 1, 2, 101), traded(9, 3, 1, 101)}, map[int]int{3: 1}},
	{"of one price of Buy the first that was accepted", []put{{buy, limit, 2, 100}, {buy, limit, 2, 101}, {buy, limit, 2, 100}, {buy, limit, 2, 101}}, put{sell, market, 7, 0},
		[]api.Event{traded(2, 9, 2, 101), traded(4, 9, 2, 101), traded(1, 9, 2, 100), traded(3, 9, 1, 100)}, map[int]int{3: 1}},

	{"a Loc order to Buy waits, though it could trade", []put{{sell, limit, 3, 98}}, put{buy, atClose, 5, 100}, nil, map[int]int{1: 3, 9: 5}},
	{"a Loc order to Sell waits, though it could trade", []put{{buy, limit, 3, 100}}, put{sell, atClose, 5, 98}, nil, map[int]int{1: 3, 9: 5}},
	{"Buy passes over Loc orders", []put{{sell, atClose, 3, 90}, {sell, limit, 1, 99}, {sell, atClose, 3, 99}}, put{buy, limit, 5, 100}, []api.Event{traded(9, 2, 1, 99)}, map[int]int{1: 3, 3: 3, 9: 4}},
	{"Sell passes over Loc orders", []put{{buy, atClose, 3, 110}, {buy, limit, 1, 101}, {buy, atClose, 3, 101}}, put{sell, market, 5, 0}, []api.Event{traded(2, 9, 1, 101)}, map[int]int{1: 3, 3: 3, 9: 4}},
	{"Loc orders of both sides that would trade", []put{{buy, atClose, 3, 110}, {sell, atClose, 3, 90}}, put{sell, atClose, 5, 80}, nil, map[int]int{1: 3, 2: 3, 9: 5}},
}

func TestMeetingsInTrading(t *testing.T) {
	for _, x := range meetings {
		t.Run(x.rule, func(t *testing.T) {
			p := startIn(t, api.Trading, roomyConfig())
			var left []api.Order
			note := func(id int, o put) {
				if rest := x.left[id]; rest > 0 && o[1] != market {
					left = append(left, api.Order{Id: id, Side: o[0], Type: o[1], Price: o[3], Rest: rest, Waiting: o[1] == atClose})
				}
			}
			for i, o := range x.resting {
				p.send(newOrder(i+1, o[0], o[1], o[2], o[3]), accepted(i+1, o[2]))
				note(i+1, o)
			}
			note(9, x.comes)
			want := append([]api.Event{accepted(9, x.comes[2])}, x.trades...)
			if rest := x.left[9]; rest > 0 && x.comes[1] == market {
				want = append(want, cancelled(9, rest))
			}
			reference := 100
			if n := len(x.trades); n > 0 {
				reference = x.trades[n-1].Price
			}
			p.wantReference(100)
			p.send(newOrder(9, x.comes[0], x.comes[1], x.comes[2], x.comes[3]), want...)
			p.wantReference(reference)
			p.wantOrders(left...)
		})
	}
}

// What the opening call leaves is met in Trading, ahead of what came later at its price.
func TestMeetingsWithOrdersOfTheOpening(t *testing.T) {
	p := start(t, roomyConfig())
	p.do(newOrder(1, buy, limit, 5, 101), newOrder(2, buy, limit, 5, 102), newOrder(3, sell, limit, 7, 101), tick(10))
	p.wantOrders(api.Order{Id: 1, Side: 1, Type: 1, Price: 101, Rest: 3})
	p.send(newOrder(4, buy, limit, 1, 101), accepted(4, 1))
	p.send(newOrder(5, sell, limit, 4, 100), accepted(5, 4), traded(1, 5, 3, 101), traded(4, 5, 1, 101))
	p.wantOrders()
}

// The reference behind each trade is its price; without a trade it stays.
func TestTheReferenceInTrading(t *testing.T) {
	p := startIn(t, api.Trading, roomyConfig())
	p.send(newOrder(1, sell, limit, 2, 107), accepted(1, 2))
	p.send(newOrder(2, sell, limit, 2, 109), accepted(2, 2))
	p.wantReference(100)
	p.send(newOrder(3, buy, market, 1, 0), accepted(3, 1), traded(3, 1, 1, 107))
	p.wantReference(107)
	p.send(newOrder(4, buy, limit, 2, 120), accepted(4, 2), traded(4, 1, 1, 107), traded(4, 2, 1, 109))
	p.wantReference(109)
	p.send(newOrder(5, buy, limit, 2, 50), accepted(5, 2))
	p.send(newOrder(6, buy, atClose, 2, 200), accepted(6, 2))
	p.refuse(newOrder(7, buy, moo, 2, 0), 7, 6)
	p.wantReference(109)
	p.send(newOrder(8, sell, limit, 3, 40), accepted(8, 3), traded(5, 8, 2, 50))
	p.wantReference(50)
	p.send(newOrder(9, buy, limit, 1, 45), accepted(9, 1), traded(9, 8, 1, 40))
	p.wantReference(40)
	p.send(newOrder(10, sell, market, 1, 0), accepted(10, 1), cancelled(10, 1))
	p.wantReference(40)
	// The closing call is held against the reference that the trades left.
	p.do(cancel(6), cancel(2), tick(20))
	p.do(newOrder(11, buy, limit, 1, 90), newOrder(12, sell, limit, 1, 20))
	p.send(tick(30), uncrossed(40, 1, 0), traded(11, 12, 1, 40), turned(3))
}

// What was traded in part, or reduced, keeps its place.
func TestPriorityStaysInTrading(t *testing.T) {
	p := startIn(t, api.Trading, roomyConfig())
	for id := 1; id <= 3; id++ {
		p.send(newOrder(id, sell, limit, 5, 100), accepted(id, 5))
	}
	p.send(newOrder(4, buy, limit, 2, 100), accepted(4, 2), traded(4, 1, 2, 100))
	p.send(reduce(2, 3), reduced(2, 3))
	p.send(reduce(1, 1), reduced(1, 1))
	p.send(newOrder(5, buy, limit, 1, 100), accepted(5, 1), traded(5, 1, 1, 100))
	p.send(newOrder(6, sell, limit, 5, 100), accepted(6, 5))
	p.send(cancel(3), cancelled(3, 5))
	p.send(newOrder(7, buy, limit, 4, 100), accepted(7, 4), traded(7, 1, 1, 100), traded(7, 2, 2, 100), traded(7, 6, 1, 100))
	p.wantOrders(api.Order{Id: 6, Side: 2, Type: 1, Price: 100, Rest: 4})
}

// An id that was traded whole, or cancelled, is spent.
func TestIdsAreSpentInTrading(t *testing.T) {
	p := startIn(t, api.Trading, roomyConfig())
	p.send(newOrder(1, sell, limit, 5, 100), accepted(1, 5))
	p.send(newOrder(2, buy, limit, 5, 100), accepted(2, 5), traded(2, 1, 5, 100))
	p.send(newOrder(3, buy, market, 5, 0), accepted(3, 5), cancelled(3, 5))
	p.send(newOrder(4, buy, market, 5, 0), accepted(4, 5), cancelled(4, 5))
	for id := 1; id <= 4; id++ {
		p.refuse(newOrder(id, buy, limit, 1, 1), id, 2)
		p.refuse(newOrder(id, buy, moo, 1, 0), id, 2)
		p.refuse(cancel(id), id, 3)
		p.refuse(reduce(id, 1), id, 3)
		p.refuse(reduce(id, 0), id, 3)
	}
}

// What would be traded at once counts too: the limits are looked at first.
func TestFullAndTotalInTrading(t *testing.T) {
	c := smallConfig() // 2 orders, a Total of 10
	p := startIn(t, api.Trading, c)
	p.send(newOrder(1, sell, limit, 10, 100), accepted(1, 10))
	p.refuse(newOrder(2, sell, limit, 1, 101), 2, 8)
	p.refuse(newOrder(2, buy, limit, 11, 100), 2, 8)
	p.refuse(newOrder(2, buy, market, 11, 0), 2, 8)
	p.send(newOrder(2, buy, atClose, 4, 100), accepted(2, 4))
	p.refuse(newOrder(3, buy, market, 1, 0), 3, 7)
	p.refuse(newOrder(3, buy, limit, 1, 100), 3, 7)
	p.send(cancel(2), cancelled(2, 4))
	p.send(newOrder(3, buy, market, 10, 0), accepted(3, 10), traded(3, 1, 10, 100))
	// Both are traded whole: there is room for all of it again.
	p.wantOrders()
	p.send(newOrder(4, sell, limit, 10, 100), accepted(4, 10))
	p.send(newOrder(5, buy, limit, 6, 100), accepted(5, 6), traded(5, 4, 6, 100))
	p.refuse(newOrder(6, sell, limit, 7, 100), 6, 8)
	p.send(newOrder(6, sell, limit, 6, 100), accepted(6, 6))
	p.refuse(newOrder(7, sell, limit, 1, 100), 7, 7)
}

// Cancelled and traded at a turn: there is room again too.
func TestRoomBehindTurns(t *testing.T) {
	p := start(t, smallConfig())
	p.do(newOrder(1, buy, market, 10, 0), newOrder(2, sell, market, 4, 0))
	p.refuse(newOrder(3, sell, limit, 6, 100), 3, 7)
	p.send(tick(10), uncrossed(100, 4, 6), traded(1, 2, 4, 100), turned(1), cancelled(1, 6))
	p.send(newOrder(3, buy, limit, 10, 100), accepted(3, 10))
	p.send(newOrder(4, sell, atClose, 10, 100), accepted(4, 10))
	p.refuse(newOrder(5, sell, limit, 1, 100), 5, 7)
}
