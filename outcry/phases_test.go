package outcry_test

import (
	"testing"

	"outcry/api"
)

func TestTheReasonPhase(t *testing.T) {
	isIn := [][]bool{ // by phase and type
		{1: true, 2: true, 3: true, 4: true},
		{1: true, 2: true, 3: false, 4: true},
		{1: true, 2: true, 3: false, 4: true},
		{1: false, 2: false, 3: false, 4: false},
	}
	for phase, types := range isIn {
		for orderType := 1; orderType <= 4; orderType++ {
			price := []int{0, 500, 0, 0, 500}[orderType]
			for _, side := range []int{buy, sell} {
				p := startIn(t, phase, smallConfig())
				if types[orderType] {
					p.do(newOrder(1, side, orderType, 10, price))
					p.refuse(newOrder(1, side, orderType, 10, price), 1, 2)
					continue
				}
				p.refuse(newOrder(1, side, orderType, 10, price), 1, 6)
				// It is not accepted: the id is free, and there is nothing to cancel.
				p.refuse(newOrder(1, side, orderType, 10, price), 1, 6)
				p.refuse(cancel(1), 1, 3)
			}
		}
	}
}

// Phase stands behind Duplicate, Quantity and Price, and ahead of Full and Total.
func TestTheReasonPhaseAmongTheOthers(t *testing.T) {
	for phase := api.Trading; phase <= api.Closed; phase++ {
		p := start(t, smallConfig())
		p.do(newOrder(1, buy, limit, 4, 1), newOrder(2, sell, atClose, 4, 1000), tick(10*phase))
		for _, o := range []put{{buy, moo, 6, 0}, {buy, moo, 7, 0}, {sell, moo, top, 0}} {
			p.refuse(newOrder(1, o[0], o[1], o[2], o[3]), 1, 2)
			p.refuse(newOrder(1, o[0], o[1], 0, 7), 1, 2)
			p.refuse(newOrder(3, o[0], o[1], 0, o[3]), 3, 4)
			p.refuse(newOrder(3, o[0], o[1], 0, 7), 3, 4)
			p.refuse(newOrder(3, o[0], o[1], o[2], 1), 3, 5)
			p.refuse(newOrder(3, o[0], o[1], o[2], top), 3, 5)
			p.refuse(newOrder(3, o[0], o[1], o[2], o[3]), 3, 6)
			p.refuse(newOrder(3, 3, o[1], o[2], o[3]), 0, 1)
		}
		if phase != api.Closed {
			p.refuse(newOrder(3, buy, limit, 1, 1), 3, 7)
			p.do(cancel(2))
			p.refuse(newOrder(3, buy, moo, 7, 0), 3, 6)
			p.refuse(newOrder(3, buy, limit, 7, 1), 3, 8)
			p.refuse(newOrder(3, buy, atClose, 7, 1), 3, 8)
			p.refuse(newOrder(3, buy, market, 7, 0), 3, 8)
		}
	}
}

func TestClosed(t *testing.T) {
	p := start(t, smallConfig())
	p.do(newOrder(1, buy, limit, 4, 1), newOrder(2, sell, atClose, 4, 1000), tick(30))
	p.wantOrders()
	for id := range 4 {
		p.refuse(cancel(id), id, 3)
		p.refuse(reduce(id, 0), id, 3)
		p.refuse(reduce(id, 1), id, 3)
		p.refuse(reduce(id, top), id, 3)
	}
	for _, id := range []int{1, 2} {
		p.refuse(newOrder(id, buy, limit, 1, 1), id, 2)
	}
	for _, o := range []put{{buy, limit, 1, 1}, {sell, market, 1, 0}, {buy, moo, 1, 0}, {sell, atClose, 1, 1}, {buy, limit, top, 1}} {
		p.refuse(newOrder(3, o[0], o[1], o[2], o[3]), 3, 6)
	}
	p.refuse(newOrder(3, buy, limit, 0, 1), 3, 4)
	p.refuse(newOrder(3, buy, limit, 1, 0), 3, 5)
	p.refuse(newOrder(3, buy, market, 1, 1), 3, 5)
	p.refuse(newOrder(3, buy, 9, 1, 1), 0, 1)
	p.refuse(nil, 0, 1)
}

// P5 in Closing: all types rest, and none waits.
func TestOrdersInClosing(t *testing.T) {
	p := startIn(t, api.Closing, roomyConfig())
	p.send(newOrder(1, buy, limit, 5, 102), accepted(1, 5), indicated(0, 0, 0))
	p.send(newOrder(2, sell, limit, 3, 98), accepted(2, 3), indicated(102, 3, 2))
	p.send(newOrder(3, sell, atClose, 4, 101), accepted(3, 4), indicated(101, 5, -2))
	p.send(newOrder(4, buy, market, 2, 0), accepted(4, 2), indicated(101, 7, 0))
	p.send(newOrder(5, sell, market, 9, 0), accepted(5, 9), indicated(98, 7, -5))
	p.refuse(newOrder(6, sell, moo, 9, 0), 6, 6)
	p.send(newOrder(6, buy, atClose, 1, 97), accepted(6, 1), indicated(97, 8, -1))
	p.wantReference(100)
	p.wantOrders(
		api.Order{Id: 1, Side: 1, Type: 1, Price: 102, Rest: 5},
		api.Order{Id: 2, Side: 2, Type: 1, Price: 98, Rest: 3},
		api.Order{Id: 3, Side: 2, Type: 4, Price: 101, Rest: 4},
		api.Order{Id: 4, Side: 1, Type: 2, Rest: 2},
		api.Order{Id: 5, Side: 2, Type: 2, Rest: 9},
		api.Order{Id: 6, Side: 1, Type: 4, Price: 97, Rest: 1})
	p.send(tick(30), uncrossed(97, 8, -1),
		traded(4, 5, 2, 97), traded(1, 5, 5, 97), traded(6, 5, 1, 97), turned(3), cancelled(2, 3), cancelled(3, 4), cancelled(5, 1))
	p.wantReference(97)
}

// P6 in each phase, of an order that is in the book and of one that waits, if it can.
func TestCancelAndReduceInEachPhase(t *testing.T) {
	for phase, behind := range [][]api.Event{{indicated(100, 2, 1)}, nil, {indicated(100, 2, 1)}} {
		for _, orderType := range []int{limit, atClose} {
			p := startIn(t, phase, roomyConfig())
			if phase != api.Trading {
				// A call that goes on beside it.
				p.do(newOrder(1, buy, limit, 3, 100), newOrder(2, sell, limit, 2, 100))
			}
			change := func(command []byte, want api.Event) {
				t.Helper()
				p.send(command, append([]api.Event{want}, behind...)...)
			}
			waits := orderType == atClose && phase != api.Closing
			want := api.Order{Id: 7, Side: 1, Type: orderType, Price: 50, Rest: 9, Waiting: waits}
			others := p.m.Orders()

			change(newOrder(7, buy, orderType, 9, 50), accepted(7, 9))
			p.wantOrders(append(others, want)...)
			p.refuse(reduce(7, 0), 7, 4)
			change(reduce(7, 1), reduced(7, 1))
			change(reduce(7, 5), reduced(7, 5))
			want.Rest = 3
			p.wantOrders(append(others, want)...)
			change(cancel(7), cancelled(7, 3))
			p.wantOrders(others...)
			p.refuse(cancel(7), 7, 3)

			change(newOrder(8, buy, orderType, 9, 50), accepted(8, 9))
			change(reduce(8, 9), cancelled(8, 9))
			p.refuse(reduce(8, 9), 8, 3)
			change(newOrder(9, buy, orderType, 9, 50), accepted(9, 9))
			change(reduce(9, 8), reduced(9, 8))
			change(reduce(9, 2), cancelled(9, 1))
			p.refuse(reduce(9, 0), 9, 3)
			p.wantOrders(others...)
		}
	}
}

// A change of a Loc order is to be seen in what is indicated, but only in Closing.
func TestWhatIsIndicatedOfAChangedLocOrder(t *testing.T) {
	for _, x := range []struct {
		phase int
		want  [4]api.Event
	}{
		{api.Opening, [4]api.Event{indicated(100, 1, 0), indicated(100, 1, 0), indicated(100, 1, 0), indicated(100, 1, 0)}},
		{api.Closing, [4]api.Event{indicated(100, 5, -4), indicated(100, 5, -2), indicated(100, 1, -6), indicated(100, 1, 0)}},
	} {
		p := startIn(t, x.phase, roomyConfig())
		p.do(newOrder(1, sell, limit, 1, 100), newOrder(2, buy, limit, 1, 100), newOrder(3, buy, atClose, 4, 100))
		p.send(newOrder(4, sell, atClose, 8, 100), accepted(4, 8), x.want[0])
		p.send(reduce(4, 2), reduced(4, 2), x.want[1])
		p.send(cancel(3), cancelled(3, 4), x.want[2])
		p.send(reduce(4, 6), cancelled(4, 6), x.want[3])
	}
}

// P8: a Loc order waits till Closing, and what Look tells in each phase.
func TestLookAndOrdersInEachPhase(t *testing.T) {
	p := start(t, roomyConfig())
	p.wantLook(api.Look{Phase: 0, Time: 0, Reference: 100, Seq: 0})
	p.do(newOrder(1, buy, atClose, 4, 103), newOrder(2, sell, limit, 4, 104), newOrder(3, buy, market, 1, 0))
	p.send(tick(7))
	p.wantLook(api.Look{Phase: 0, Time: 7, Reference: 100, Seq: 6})
	waiting := api.Order{Id: 1, Side: 1, Type: 4, Price: 103, Rest: 4, Waiting: true}
	p.wantOrders(waiting,
		api.Order{Id: 2, Side: 2, Type: 1, Price: 104, Rest: 4},
		api.Order{Id: 3, Side: 1, Type: 2, Rest: 1})

	p.send(tick(12), uncrossed(104, 1, -3), traded(3, 2, 1, 104), turned(1))
	p.wantLook(api.Look{Phase: 1, Time: 12, Reference: 104, Seq: 9})
	p.wantOrders(waiting, api.Order{Id: 2, Side: 2, Type: 1, Price: 104, Rest: 3})
	p.send(newOrder(4, buy, limit, 5, 102), accepted(4, 5))
	p.send(newOrder(5, sell, limit, 1, 101), accepted(5, 1), traded(4, 5, 1, 102))
	p.send(tick(19))
	p.wantLook(api.Look{Phase: 1, Time: 19, Reference: 102, Seq: 12})
	p.wantOrders(waiting,
		api.Order{Id: 2, Side: 2, Type: 1, Price: 104, Rest: 3},
		api.Order{Id: 4, Side: 1, Type: 1, Price: 102, Rest: 4})

	p.send(tick(21), turned(2), indicated(0, 0, 0))
	waiting.Waiting = false
	p.wantLook(api.Look{Phase: 2, Time: 21, Reference: 102, Seq: 14})
	p.send(newOrder(6, sell, atClose, 2, 103), accepted(6, 2), indicated(103, 2, 2))
	p.refuse(cancel(5), 5, 3)
	p.wantLook(api.Look{Phase: 2, Time: 21, Reference: 102, Seq: 17})
	p.wantOrders(waiting,
		api.Order{Id: 2, Side: 2, Type: 1, Price: 104, Rest: 3},
		api.Order{Id: 4, Side: 1, Type: 1, Price: 102, Rest: 4},
		api.Order{Id: 6, Side: 2, Type: 4, Price: 103, Rest: 2})

	p.send(tick(33), uncrossed(103, 2, 2), traded(1, 6, 2, 103), turned(3), cancelled(1, 2), cancelled(2, 3), cancelled(4, 4))
	p.wantLook(api.Look{Phase: 3, Time: 33, Reference: 103, Seq: 23})
	p.wantOrders()
	p.refuse(newOrder(7, buy, limit, 1, 1), 7, 6)
	p.send(tick(top))
	p.wantLook(api.Look{Phase: 3, Time: 4294967295, Reference: 103, Seq: 24})
}
