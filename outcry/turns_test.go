package outcry_test

import (
	"bytes"
	"slices"
	"testing"

	"outcry/api"
	"outcry/outcry"
)

func TestExamplesThreeToSix(t *testing.T) {
	p := start(t, roomyConfig())
	p.do(newOrder(7, buy, limit, 5, 101), newOrder(8, sell, limit, 3, 99))
	got := p.m.Send([]byte{4, 0, 0, 0, 10})
	want := []byte{
		7, 0, 0, 0, 5, 0, 0, 0, 101, 0, 0, 0, 3, 0, 0, 0, 0, 0, 0, 0, 2,
		3, 0, 0, 0, 6, 0, 0, 0, 7, 0, 0, 0, 8, 0, 0, 0, 3, 0, 0, 0, 101,
		8, 0, 0, 0, 7, 0, 0, 0, 1}
	if !bytes.Equal(got, want) {
		t.Fatalf("P7: example 3: %v, want %v", got, want)
	}
	p.wantLook(api.Look{Phase: 1, Time: 10, Reference: 101, Seq: 7})
	p.wantOrders(api.Order{Id: 7, Side: 1, Type: 1, Price: 101, Rest: 2})
	got = p.m.Send([]byte{1, 0, 0, 0, 9, 2, 2, 0, 0, 0, 5, 0, 0, 0, 0})
	want = []byte{
		1, 0, 0, 0, 8, 0, 0, 0, 9, 0, 0, 0, 5,
		3, 0, 0, 0, 9, 0, 0, 0, 7, 0, 0, 0, 9, 0, 0, 0, 2, 0, 0, 0, 101,
		4, 0, 0, 0, 10, 0, 0, 0, 9, 0, 0, 0, 3}
	if !bytes.Equal(got, want) {
		t.Fatalf("P5: example 4: %v, want %v", got, want)
	}
	p.wantOrders()
	p.seq = 10
	p.send(newOrder(1, sell, limit, 4, 105), accepted(1, 4))
	p.send(newOrder(2, buy, atClose, 4, 110), accepted(2, 4))
	p.send(newOrder(3, sell, limit, 1, 104), accepted(3, 1))
	p.send(newOrder(4, buy, limit, 6, 105), accepted(4, 6), traded(4, 3, 1, 104), traded(4, 1, 4, 105))
	p.wantLook(api.Look{Phase: 1, Time: 10, Reference: 105, Seq: 16})
	p.wantOrders(
		api.Order{Id: 2, Side: 1, Type: 4, Price: 110, Rest: 4, Waiting: true},
		api.Order{Id: 4, Side: 1, Type: 1, Price: 105, Rest: 1})
	p.send(tick(20), turned(2), indicated(0, 0, 0))
	p.wantOrders(
		api.Order{Id: 2, Side: 1, Type: 4, Price: 110, Rest: 4},
		api.Order{Id: 4, Side: 1, Type: 1, Price: 105, Rest: 1})
}

func TestExampleSeven(t *testing.T) {
	p := start(t, roomyConfig())
	p.send(newOrder(1, buy, market, 10, 0), accepted(1, 10), indicated(0, 0, 0))
	p.send(newOrder(2, sell, market, 4, 0), accepted(2, 4), indicated(100, 4, 6))
	p.send(tick(10), uncrossed(100, 4, 6), traded(1, 2, 4, 100), turned(1), cancelled(1, 6))
	p.wantOrders()
}

func TestExampleTen(t *testing.T) {
	for _, time := range []int{30, 31, top} {
		p := start(t, roomyConfig())
		p.send(tick(time),
			uncrossed(0, 0, 0), turned(1), turned(2), indicated(0, 0, 0), uncrossed(0, 0, 0), turned(3))
		p.wantLook(api.Look{Phase: 3, Time: time, Reference: 100, Seq: 6})
	}
}

// Each turn is at its time, and not one below it.
func TestEachTurnAtItsTime(t *testing.T) {
	for _, turns := range [][3]int{{10, 20, 30}, {1, 2, 3}, {999998, 999999, 1000000}, {1, 500, 1000000}} {
		c := roomyConfig()
		c.Open, c.Close, c.End = turns[0], turns[1], turns[2]
		p := start(t, c)
		told := [][]api.Event{
			{uncrossed(0, 0, 0), turned(1)},
			{turned(2), indicated(0, 0, 0)},
			{uncrossed(0, 0, 0), turned(3)},
		}
		seqs := []int{0, 2, 4, 6}
		for phase, time := range turns {
			p.send(tick(time - 1))
			p.wantLook(api.Look{Phase: phase, Time: time - 1, Reference: 100, Seq: seqs[phase]})
			p.send(tick(time), told[phase]...)
			p.wantLook(api.Look{Phase: phase + 1, Time: time, Reference: 100, Seq: seqs[phase+1]})
		}
	}
}

// A turn comes with the first tick that is not below its time.
func TestTurnsBehindTheirTimes(t *testing.T) {
	p := start(t, roomyConfig())
	p.send(tick(19), uncrossed(0, 0, 0), turned(1))
	p.wantLook(api.Look{Phase: 1, Time: 19, Reference: 100, Seq: 2})
	p.send(tick(29), turned(2), indicated(0, 0, 0))
	p.wantLook(api.Look{Phase: 2, Time: 29, Reference: 100, Seq: 4})
	p.send(tick(1000001), uncrossed(0, 0, 0), turned(3))
	p.wantLook(api.Look{Phase: 3, Time: 1000001, Reference: 100, Seq: 6})
}

func TestSeveralTurnsByOneTick(t *testing.T) {
	steps := [][]api.Event{
		{uncrossed(0, 0, 0), turned(1)},
		{turned(2), indicated(0, 0, 0)},
		{uncrossed(0, 0, 0), turned(3)},
	}
	firsts := []int{0, 10, 20, 30}
	for from := range 4 {
		for to := from; to <= 3; to++ {
			for _, later := range []int{0, 3, 9} {
				p := startIn(t, from, roomyConfig())
				var want []api.Event
				for _, step := range steps[from:to] {
					want = append(want, step...)
				}
				p.send(tick(firsts[to]+later), want...)
				p.wantLook(api.Look{Phase: to, Time: firsts[to] + later, Reference: 100, Seq: p.seq})
			}
		}
	}
}

func TestTicksThatAreNotAboveTheTime(t *testing.T) {
	times := []int{5, 15, 25, 35}
	for phase, time := range times {
		p := start(t, roomyConfig())
		p.do(newOrder(1, buy, limit, 3, 100), newOrder(2, sell, atClose, 2, 100), newOrder(3, sell, limit, 9, 101), tick(time))
		orders, look := p.m.Orders(), p.m.Look()
		if look.Phase != phase {
			t.Fatalf("P7: the phase at %d is %d, want %d", time, look.Phase, phase)
		}
		for _, low := range []int{0, 1, 9, 10, 11, 19, 20, 21, 29, 30, 31, time - 1, time} {
			if low <= time {
				p.send(tick(low))
				p.wantLook(look)
				p.wantOrders(orders...)
			}
		}
		// Above it, and below the next turn: the time alone.
		p.send(tick(time + 1))
		look.Time++
		p.wantLook(look)
		p.wantOrders(orders...)
	}
}

func TestTicksBehindClosed(t *testing.T) {
	p := startIn(t, api.Closed, roomyConfig())
	for _, time := range []int{31, 31, 30, 40, 1000000, 1000001, 1 << 31, 7, top - 1, top, 0, top} {
		look := p.m.Look()
		look.Time = max(look.Time, time)
		p.send(tick(time))
		p.wantLook(look)
	}
}

func TestAnUncrossingWithoutAVolume(t *testing.T) {
	p := start(t, roomyConfig())
	p.do(newOrder(1, buy, limit, 5, 90), newOrder(2, sell, limit, 5, 91), newOrder(3, buy, atClose, 5, 99))
	p.send(tick(10), uncrossed(0, 0, 0), turned(1))
	p.wantReference(100)
	p.wantOrders(
		api.Order{Id: 1, Side: 1, Type: 1, Price: 90, Rest: 5},
		api.Order{Id: 2, Side: 2, Type: 1, Price: 91, Rest: 5},
		api.Order{Id: 3, Side: 1, Type: 4, Price: 99, Rest: 5, Waiting: true})
	p.do(cancel(3))
	p.send(tick(20), turned(2), indicated(0, 0, 0))
	p.send(tick(30), uncrossed(0, 0, 0), turned(3), cancelled(1, 5), cancelled(2, 5))
	p.wantReference(100)
	p.wantOrders()
}

// crossing is a call's orders, with the ids 1, 2, .., and what becomes of them when it is uncrossed.
type crossing struct {
	rule      string
	reference int
	orders    []put
	call      api.Event
	trades    []api.Event
	left      map[int]int // by id
}

var crossings = []crossing{
	{"all of both sides", 90, []put{{buy, limit, 5, 100}, {sell, limit, 5, 100}},
		uncrossed(100, 5, 0), []api.Event{traded(1, 2, 5, 100)}, nil},
	{"an order of Buy in part", 90, []put{{buy, limit, 7, 100}, {sell, limit, 5, 100}},
		uncrossed(100, 5, 2), []api.Event{traded(1, 2, 5, 100)}, map[int]int{1: 2}},
	{"an order of Sell in part", 90, []put{{buy, limit, 5, 100}, {sell, limit, 7, 100}},
		uncrossed(100, 5, -2), []api.Event{traded(1, 2, 5, 100)}, map[int]int{2: 2}},
	{"one of Buy with several of Sell", 90, []put{{buy, limit, 9, 100}, {sell, limit, 2, 99}, {sell, limit, 3, 98}, {sell, limit, 1, 98}},
		uncrossed(100, 6, 3), []api.Event{traded(1, 3, 3, 100), traded(1, 4, 1, 100), traded(1, 2, 2, 100)}, map[int]int{1: 3}},
	{"one of Sell with several of Buy", 110, []put{{sell, limit, 9, 100}, {buy, limit, 2, 101}, {buy, limit, 3, 102}, {buy, limit, 1, 102}},
		uncrossed(100, 6, -3), []api.Event{traded(3, 1, 3, 100), traded(4, 1, 1, 100), traded(2, 1, 2, 100)}, map[int]int{1: 3}},
	{"the volume ends in the middle of both sides", 100, []put{{buy, limit, 4, 103}, {buy, limit, 4, 101}, {buy, limit, 4, 99}, {sell, limit, 3, 98}, {sell, limit, 3, 100}, {sell, limit, 3, 102}},
		uncrossed(101, 6, 2), []api.Event{traded(1, 4, 3, 101), traded(1, 5, 1, 101), traded(2, 5, 2, 101)}, map[int]int{2: 2, 3: 4, 6: 3}},
	{"of one price the first that was accepted", 100, []put{{sell, limit, 2, 100}, {buy, limit, 2, 100}, {sell, limit, 2, 100}, {buy, limit, 1, 100}, {sell, limit, 2, 100}},
		uncrossed(100, 3, -3), []api.Event{traded(2, 1, 2, 100), traded(4, 3, 1, 100)}, map[int]int{3: 1, 5: 2}},
	{"Market and Moo ahead, the first that was accepted", 100, []put{{buy, limit, 1, 1000000}, {buy, moo, 2, 0}, {buy, market, 3, 0}, {sell, limit, 6, 50}, {buy, moo, 1, 0}},
		uncrossed(1000000, 6, 1), []api.Event{traded(2, 4, 2, 1000000), traded(3, 4, 3, 1000000), traded(5, 4, 1, 1000000)}, map[int]int{1: 1}},
	{"Market and Moo of Sell ahead", 100, []put{{sell, limit, 1, 1}, {sell, market, 2, 0}, {sell, moo, 3, 0}, {buy, limit, 4, 150}},
		uncrossed(1, 4, -2), []api.Event{traded(4, 2, 2, 1), traded(4, 3, 2, 1)}, map[int]int{1: 1, 3: 1}},
	{"those that wait do not trade", 100, []put{{buy, atClose, 9, 500}, {buy, limit, 2, 100}, {sell, atClose, 9, 1}, {sell, limit, 3, 100}},
		uncrossed(100, 2, -1), []api.Event{traded(2, 4, 2, 100)}, map[int]int{1: 9, 3: 9, 4: 1}},
	{"at the reference, for none has a price", 77, []put{{sell, moo, 2, 0}, {buy, market, 1, 0}, {buy, moo, 2, 0}},
		uncrossed(77, 2, 1), []api.Event{traded(2, 1, 1, 77), traded(3, 1, 1, 77)}, map[int]int{3: 1}},
}

func TestTheOpeningIsUncrossed(t *testing.T) {
	for _, c := range crossings {
		t.Run(c.rule, func(t *testing.T) {
			config := roomyConfig()
			config.Reference = c.reference
			p := start(t, config)
			var left []api.Order
			want := append([]api.Event{c.call}, c.trades...)
			want = append(want, turned(1))
			for i, o := range c.orders {
				p.do(newOrder(i+1, o[0], o[1], o[2], o[3]))
				rest := c.left[i+1]
				isLost := o[1] == market || o[1] == moo
				if rest > 0 && isLost {
					want = append(want, cancelled(i+1, rest))
				} else if rest > 0 {
					left = append(left, api.Order{Id: i + 1, Side: o[0], Type: o[1], Price: o[3], Rest: rest, Waiting: o[1] == atClose})
				}
			}
			p.wantReference(c.reference)
			p.send(tick(10), want...)
			p.wantReference(c.call.Price)
			p.wantOrders(left...)
		})
	}
}

// The same orders in Closing, some Limit orders as Loc orders: all that is left is cancelled.
func TestTheClosingIsUncrossed(t *testing.T) {
	for _, c := range crossings {
		if slices.ContainsFunc(c.orders, func(o put) bool { return o[1] == atClose }) {
			continue // It would not wait here.
		}
		t.Run(c.rule, func(t *testing.T) {
			config := roomyConfig()
			config.Reference = c.reference
			p := startIn(t, api.Closing, config)
			want := append([]api.Event{c.call}, c.trades...)
			want = append(want, turned(3))
			for i, o := range c.orders {
				orderType := market // There is no Moo here.
				if o[1] == limit {
					orderType = []int{limit, atClose}[i%2]
				}
				p.do(newOrder(i+1, o[0], orderType, o[2], o[3]))
				if rest := c.left[i+1]; rest > 0 {
					want = append(want, cancelled(i+1, rest))
				}
			}
			p.send(tick(30), want...)
			p.wantReference(c.call.Price)
			p.wantOrders()
		})
	}
}

func TestUncrossingOfTheHighestNumbers(t *testing.T) {
	c := roomyConfig()
	c.Total = 1000000000
	p := start(t, c)
	p.do(newOrder(top, buy, limit, 1000000000, 1000000), newOrder(0, sell, market, 999999999, 0))
	p.send(tick(10), uncrossed(1000000, 999999999, 1), traded(top, 0, 999999999, 1000000), turned(1))
	p.wantOrders(api.Order{Id: top, Side: 1, Type: 1, Price: 1000000, Rest: 1})
	p.send(newOrder(1, sell, limit, 1000000000, 1), accepted(1, 1000000000), traded(top, 1, 1, 1000000))
	p.send(newOrder(2, buy, market, 1000000000, 0), accepted(2, 1000000000), traded(2, 1, 999999999, 1), cancelled(2, 1))
	p.wantLook(api.Look{Phase: 1, Time: 10, Reference: 1, Seq: 12})
}

// Market and Moo orders that are left are cancelled as they were accepted, whatever their priority and side.
func TestWhatIsLeftBehindTheOpening(t *testing.T) {
	p := start(t, roomyConfig())
	p.do(newOrder(9, buy, moo, 5, 0), newOrder(3, buy, limit, 1, 80), newOrder(8, buy, market, 2, 0),
		newOrder(7, buy, atClose, 4, 90), newOrder(1, buy, moo, 3, 0), newOrder(2, buy, market, 1, 0))
	p.send(tick(10), uncrossed(0, 0, 0), turned(1), cancelled(9, 5), cancelled(8, 2), cancelled(1, 3), cancelled(2, 1))
	left := []api.Order{
		{Id: 3, Side: 1, Type: 1, Price: 80, Rest: 1},
		{Id: 7, Side: 1, Type: 4, Price: 90, Rest: 4, Waiting: true}}
	p.wantOrders(left...)

	p = start(t, roomyConfig())
	p.do(newOrder(9, sell, market, 5, 0), newOrder(3, buy, limit, 7, 80), newOrder(8, sell, moo, 4, 0), newOrder(1, sell, market, 3, 0))
	p.send(tick(10), uncrossed(80, 7, -5), traded(3, 9, 5, 80), traded(3, 8, 2, 80), turned(1), cancelled(8, 2), cancelled(1, 3))
	p.wantOrders()
	for _, id := range []int{9, 3, 8, 1} {
		p.refuse(cancel(id), id, 3)
		p.refuse(newOrder(id, buy, limit, 1, 1), id, 2)
	}
}

// At Closed all are cancelled as they were accepted, whatever their priority, side, type and the phase they came in at.
func TestWhatIsLeftBehindTheClosing(t *testing.T) {
	p := start(t, roomyConfig())
	p.do(newOrder(9, sell, atClose, 3, 200), newOrder(8, buy, limit, 4, 50), tick(10))
	p.do(newOrder(7, sell, limit, 5, 190), newOrder(2, buy, atClose, 6, 60), tick(20))
	p.do(newOrder(6, sell, limit, 7, 180), newOrder(1, buy, atClose, 8, 55), newOrder(5, sell, limit, 1, 170))
	p.send(tick(30), uncrossed(0, 0, 0), turned(3),
		cancelled(9, 3), cancelled(8, 4), cancelled(7, 5), cancelled(2, 6), cancelled(6, 7), cancelled(1, 8), cancelled(5, 1))
	p.wantOrders()
	p.send(tick(31))

	p = startIn(t, api.Closing, roomyConfig())
	p.do(newOrder(4, sell, limit, 3, 120), newOrder(3, sell, market, 5, 0), newOrder(2, buy, limit, 4, 95), newOrder(1, sell, market, 2, 0))
	p.send(tick(30), uncrossed(95, 4, -3), traded(2, 3, 4, 95), turned(3), cancelled(4, 3), cancelled(3, 1), cancelled(1, 2))
	p.wantLook(api.Look{Phase: 3, Time: 30, Reference: 95, Seq: p.seq})
}

// From Trading to Closing nothing is uncrossed: what could be traded then is indicated.
func TestTheTurnToClosing(t *testing.T) {
	p := start(t, roomyConfig())
	p.do(newOrder(1, buy, atClose, 4, 105), tick(10))
	p.do(newOrder(2, sell, limit, 3, 102), newOrder(3, sell, atClose, 2, 103), newOrder(4, buy, limit, 1, 99))
	p.send(tick(20), turned(2), indicated(103, 4, -1))
	p.wantLook(api.Look{Phase: 2, Time: 20, Reference: 100, Seq: p.seq})
	p.wantOrders(
		api.Order{Id: 1, Side: 1, Type: 4, Price: 105, Rest: 4},
		api.Order{Id: 2, Side: 2, Type: 1, Price: 102, Rest: 3},
		api.Order{Id: 3, Side: 2, Type: 4, Price: 103, Rest: 2},
		api.Order{Id: 4, Side: 1, Type: 1, Price: 99, Rest: 1})
	p.send(tick(30), uncrossed(103, 4, -1), traded(1, 2, 3, 103), traded(1, 3, 1, 103), turned(3), cancelled(3, 1), cancelled(4, 1))
	p.wantLook(api.Look{Phase: 3, Time: 30, Reference: 103, Seq: p.seq})
}

// A Loc order that waited stands where it would stand had it not: by its price, and by when it was accepted.
func TestPriorityOfOrdersThatWaited(t *testing.T) {
	p := start(t, roomyConfig())
	p.do(newOrder(1, sell, limit, 1, 101), newOrder(2, sell, atClose, 1, 101), newOrder(3, sell, atClose, 1, 100), tick(10))
	p.do(newOrder(4, sell, limit, 1, 101), newOrder(5, sell, atClose, 1, 101), newOrder(6, sell, limit, 1, 100), tick(20))
	p.do(newOrder(7, sell, atClose, 1, 101), newOrder(8, sell, limit, 1, 100), newOrder(9, sell, market, 1, 0))
	p.do(newOrder(10, buy, limit, 9, 101))
	p.send(tick(30), uncrossed(101, 9, 0),
		traded(10, 9, 1, 101), traded(10, 3, 1, 101), traded(10, 6, 1, 101), traded(10, 8, 1, 101),
		traded(10, 1, 1, 101), traded(10, 2, 1, 101), traded(10, 4, 1, 101), traded(10, 5, 1, 101), traded(10, 7, 1, 101),
		turned(3))
}

// The reference of a later step is that which an earlier step of the same tick left.
func TestOneTickThroughAllPhases(t *testing.T) {
	c := roomyConfig()
	c.Reference = 50
	p := start(t, c)
	p.do(newOrder(1, buy, limit, 3, 104), newOrder(2, sell, limit, 3, 98), // at 98, the nearest to 50
		newOrder(3, buy, atClose, 2, 120), newOrder(4, sell, atClose, 2, 90), // at 98 too, between both
		newOrder(5, buy, limit, 1, 70), newOrder(6, sell, atClose, 1, 130))
	p.send(tick(1000),
		uncrossed(98, 3, 0), traded(1, 2, 3, 98), turned(1),
		turned(2), indicated(98, 2, 0),
		uncrossed(98, 2, 0), traded(3, 4, 2, 98), turned(3), cancelled(5, 1), cancelled(6, 1))
	p.wantLook(api.Look{Phase: 3, Time: 1000, Reference: 98, Seq: p.seq})
}

func TestMalformedTicksTurnNothing(t *testing.T) {
	p := start(t, roomyConfig())
	for _, time := range []int{10, 20, 30, top} {
		p.refuse(tick(time)[:4], 0, 1)
		p.refuse(append(tick(time), 0), 0, 1)
	}
}

// Two markets: one turns, and the other one does not.
func TestTurnsAreOfOneMarket(t *testing.T) {
	one, other := start(t, roomyConfig()), start(t, roomyConfig())
	one.do(tick(30))
	other.wantLook(api.Look{Phase: 0, Time: 0, Reference: 100, Seq: 0})
	c := roomyConfig()
	c.Open = 31
	if m, errno := outcry.New(c); m != nil || errno != api.ErrConfig {
		t.Errorf("P3: New(%+v) = %v, %d", c, m, errno)
	}
	other.send(tick(10), uncrossed(0, 0, 0), turned(1))
}
