package outcry_test

import (
	"math"
	"slices"
	"testing"

	"outcry/api"
)

// smallConfig has limits that are soon met.
func smallConfig() api.Config {
	return api.Config{Reference: 100, Open: 10, Close: 20, End: 30, Orders: 2, Total: 10}
}

// goodCommands are one of each kind, that are not malformed.
func goodCommands() [][]byte {
	return [][]byte{newOrder(1, api.Buy, api.Limit, 1, 1), cancel(1), reduce(1, 1), tick(1)}
}

func TestMalformedByLength(t *testing.T) {
	p := start(t, smallConfig())
	p.refuse(nil, 0, 1)
	p.refuse([]byte{}, 0, 1)
	for _, c := range goodCommands() {
		for n := range len(c) {
			p.refuse(c[:n], 0, 1)
		}
		p.refuse(slices.Concat(c, []byte{0}), 0, 1)
		p.refuse(slices.Concat(c, c), 0, 1)
		p.refuse(slices.Concat(c, make([]byte, 1000)), 0, 1)
	}
}

func TestMalformedByFirstByte(t *testing.T) {
	p := start(t, smallConfig())
	for first := range 256 {
		if 1 <= first && first <= 4 {
			continue
		}
		p.refuse([]byte{byte(first)}, 0, 1)
		for _, c := range goodCommands() {
			p.refuse(glue(byte(first), c[1:]), 0, 1)
		}
	}
	// Each kind has the length of its own alone.
	lengths := []int{0, 15, 5, 9, 5}
	for kind := 1; kind <= 4; kind++ {
		for n := 1; n < 40; n++ {
			if n != lengths[kind] {
				p.refuse(slices.Concat([]byte{byte(kind)}, slices.Repeat([]byte{1}, n-1)), 0, 1)
			}
		}
	}
}

func TestMalformedBySideOrType(t *testing.T) {
	p := start(t, smallConfig())
	for n := range 256 {
		if n != api.Buy && n != api.Sell {
			p.refuse(newOrder(7, n, api.Limit, 1, 1), 0, 1)
		}
		if n < 1 || n > 4 {
			p.refuse(newOrder(7, api.Buy, n, 1, 1), 0, 1)
		}
	}
}

func TestMalformedAheadOfAllReasons(t *testing.T) {
	p := start(t, smallConfig())
	p.send(newOrder(1, api.Buy, api.Limit, 10, 1), accepted(1, 10), indicated(0, 0, 0))
	p.send(newOrder(2, api.Sell, api.Limit, 1, 1000000), accepted(2, 1), indicated(0, 0, 0))
	for _, id := range []int{1, 9} {
		for _, qty := range []int{0, 1, top} {
			for _, price := range []int{0, 1, top} {
				p.refuse(newOrder(id, 3, api.Limit, qty, price), 0, 1)
				p.refuse(newOrder(id, 0, api.Market, qty, price), 0, 1)
				p.refuse(newOrder(id, api.Buy, 5, qty, price), 0, 1)
				p.refuse(newOrder(id, api.Sell, 0, qty, price), 0, 1)
				p.refuse(newOrder(id, api.Buy, api.Moo, qty, price)[:14], 0, 1)
			}
		}
	}
	p.refuse(cancel(9)[:4], 0, 1)
	p.refuse(append(reduce(1, 0), 0), 0, 1)
}

// fault is a reason, and what makes a command be rejected for it: full tells
// whether the market is to be full.
type fault struct {
	reason api.Reason
	add    func(o *api.Order, full *bool)
}

func faultsOfNew(wrongPrice int) []fault {
	return []fault{
		{2, func(o *api.Order, _ *bool) { o.Id = 1 }},
		{4, func(o *api.Order, _ *bool) { o.Rest = 0 }},
		{5, func(o *api.Order, _ *bool) { o.Price = wrongPrice }},
		{7, func(_ *api.Order, full *bool) { *full = true }},
		{8, func(o *api.Order, _ *bool) {
			// A quantity of 0 is never above the Total.
			if o.Rest != 0 {
				o.Rest = 7
			}
		}},
	}
}

// Whatever other faults there are, the first one in the document's order is told.
func TestEachReasonOfNewAheadOfThoseBehindIt(t *testing.T) {
	for _, orderType := range []int{api.Limit, api.Market, api.Moo, api.Loc} {
		right, wrong := 0, []int{1, 1000000, top}
		if orderType == api.Limit || orderType == api.Loc {
			right, wrong = 1, []int{0, 1000001, top}
		}
		for _, price := range wrong {
			faults := faultsOfNew(price)
			for chosen := 1; chosen < 1<<len(faults); chosen++ {
				o := api.Order{Id: 9, Side: api.Buy, Type: orderType, Rest: 6, Price: right}
				wantFirstOf(t, o, faults, chosen)
			}
		}
	}
}

func wantFirstOf(t *testing.T, o api.Order, faults []fault, chosen int) {
	t.Helper()
	var first api.Reason
	full := false
	for i, f := range faults {
		if chosen&(1<<i) != 0 {
			f.add(&o, &full)
			if first == 0 {
				first = f.reason
			}
		}
	}
	p := start(t, smallConfig())
	p.send(newOrder(1, api.Buy, api.Limit, 4, 1), accepted(1, 4), indicated(0, 0, 0))
	if full {
		p.send(newOrder(2, api.Sell, api.Limit, 1, 1000000), accepted(2, 1), indicated(0, 0, 0))
	}
	p.refuse(newOrder(o.Id, o.Side, o.Type, o.Rest, o.Price), o.Id, first)
}

func TestReasonsOfCancelAndReduce(t *testing.T) {
	p := start(t, smallConfig())
	for _, id := range []int{0, 1, 99, top} {
		p.refuse(cancel(id), id, 3)
		for _, qty := range []int{0, 1, top} {
			p.refuse(reduce(id, qty), id, 3)
		}
	}
	p.send(newOrder(1, api.Buy, api.Limit, 4, 1), accepted(1, 4), indicated(0, 0, 0))
	p.refuse(cancel(0), 0, 3)
	p.refuse(cancel(2), 2, 3)
	p.refuse(cancel(1<<24), 1<<24, 3)
	p.refuse(reduce(2, 0), 2, 3)
	p.refuse(reduce(1, 0), 1, 4)
	p.send(cancel(1), cancelled(1, 4), indicated(0, 0, 0))
	p.refuse(cancel(1), 1, 3)
	p.refuse(reduce(1, 0), 1, 3)
	p.refuse(reduce(1, 1), 1, 3)
}

// An id is spent once it was accepted, and not by a rejected command.
func TestDuplicate(t *testing.T) {
	c := smallConfig()
	c.Orders = 24
	p := start(t, c)
	nothing := indicated(0, 0, 0)
	for _, id := range []int{0, 1, 2, 3, 1 << 24, top} {
		again := func() {
			t.Helper()
			p.refuse(newOrder(id, api.Buy, api.Limit, 1, 1), id, 2)
			p.refuse(newOrder(id, api.Sell, api.Loc, 1, 1), id, 2)
			p.refuse(newOrder(id, api.Sell, api.Market, 0, 7), id, 2)
		}
		p.refuse(newOrder(id, api.Buy, api.Limit, 0, 1), id, 4)
		p.refuse(newOrder(id, api.Buy, api.Limit, 1, 0), id, 5)
		p.refuse(newOrder(id, api.Buy, api.Limit, 11, 1), id, 8)
		p.refuse(cancel(id), id, 3)
		p.refuse(newOrder(id, api.Buy, 9, 1, 1), 0, 1)
		p.send(newOrder(id, api.Buy, api.Loc, 2, 1), accepted(id, 2), nothing)
		again()
		p.send(reduce(id, 1), reduced(id, 1), nothing)
		again()
		if id%2 == 0 {
			p.send(cancel(id), cancelled(id, 1), nothing)
		} else {
			p.send(reduce(id, 1), cancelled(id, 1), nothing)
		}
		again()
	}
	p.wantOrders()
}

func TestQuantity(t *testing.T) {
	p := start(t, smallConfig())
	for _, side := range []int{api.Buy, api.Sell} {
		p.refuse(newOrder(5, side, api.Limit, 0, 1), 5, 4)
		p.refuse(newOrder(5, side, api.Market, 0, 0), 5, 4)
		p.refuse(newOrder(5, side, api.Moo, 0, 0), 5, 4)
		p.refuse(newOrder(5, side, api.Loc, 0, 1), 5, 4)
		p.refuse(newOrder(0, side, api.Limit, 0, 0), 0, 4)
		p.refuse(newOrder(top, side, api.Limit, 0, top), top, 4)
	}
}

func TestPrice(t *testing.T) {
	for _, side := range []int{api.Buy, api.Sell} {
		p := start(t, smallConfig())
		for _, orderType := range []int{api.Limit, api.Loc} {
			for _, price := range []int{0, 1000001, 1 << 24, 1 << 31, top} {
				p.refuse(newOrder(5, side, orderType, 1, price), 5, 5)
				p.refuse(newOrder(5, side, orderType, top, price), 5, 5)
			}
		}
		for _, orderType := range []int{api.Market, api.Moo} {
			for _, price := range []int{1, 100, 1000000, 1000001, 1 << 24, top} {
				p.refuse(newOrder(5, side, orderType, 1, price), 5, 5)
			}
		}
		p.send(newOrder(1, side, api.Limit, 1, 1), accepted(1, 1), indicated(0, 0, 0))
		p.send(newOrder(2, side, api.Loc, 1, 1000000), accepted(2, 1), indicated(0, 0, 0))
	}
	for _, orderType := range []int{api.Market, api.Moo} {
		p := start(t, smallConfig())
		p.send(newOrder(1, api.Buy, orderType, 1, 0), accepted(1, 1), indicated(0, 0, 0))
		p.send(newOrder(2, api.Sell, orderType, 1, 0), accepted(2, 1), indicated(100, 1, 0))
	}
}

func TestFull(t *testing.T) {
	for orders := 1; orders <= 24; orders++ {
		c := plainConfig()
		c.Orders = orders
		p := start(t, c)
		types := []int{api.Limit, api.Loc}
		for id := range orders {
			// All of one side, waiting ones among them: every live one counts.
			p.send(newOrder(id, api.Sell, types[id%2], 1, 500), accepted(id, 1), indicated(0, 0, 0))
		}
		p.refuse(newOrder(100, api.Sell, api.Limit, 1, 500), 100, 7)
		p.refuse(newOrder(100, api.Buy, api.Loc, 1, 1), 100, 7)
		p.refuse(newOrder(100, api.Buy, api.Market, top, 0), 100, 7)
		p.send(cancel(orders-1), cancelled(orders-1, 1), indicated(0, 0, 0))
		p.send(newOrder(100, api.Buy, api.Limit, 1, 1), accepted(100, 1), indicated(0, 0, 0))
		p.refuse(newOrder(101, api.Buy, api.Limit, 1, 1), 101, 7)
		p.send(reduce(100, 1), cancelled(100, 1), indicated(0, 0, 0))
		p.send(newOrder(101, api.Buy, api.Limit, 1, 1), accepted(101, 1), indicated(0, 0, 0))
		p.refuse(newOrder(102, api.Buy, api.Limit, 1, 1), 102, 7)
		if n := len(p.m.Orders()); n != orders {
			t.Errorf("P4: %d orders are live, want %d", n, orders)
		}
	}
}

func TestTotal(t *testing.T) {
	nothing := indicated(0, 0, 0)
	for _, side := range []int{api.Buy, api.Sell} {
		c := smallConfig()
		c.Orders = 24
		p := start(t, c)
		other := api.Buy + api.Sell - side
		// One above, and far above, with none live.
		p.refuse(newOrder(1, side, api.Limit, 11, 100), 1, 8)
		p.refuse(newOrder(1, side, api.Market, top, 0), 1, 8)
		p.send(newOrder(1, side, api.Limit, 4, 100), accepted(1, 4), nothing)
		p.refuse(newOrder(2, side, api.Limit, 7, 100), 2, 8)
		p.refuse(newOrder(2, side, api.Limit, top, 100), 2, 8)
		p.refuse(newOrder(2, side, api.Limit, top-3, 100), 2, 8)
		// Waiting orders and those without a price count too.
		p.send(newOrder(2, side, api.Loc, 3, 100), accepted(2, 3), nothing)
		p.send(newOrder(3, side, api.Market, 2, 0), accepted(3, 2), nothing)
		p.refuse(newOrder(4, side, api.Moo, 2, 0), 4, 8)
		p.send(newOrder(4, side, api.Moo, 1, 0), accepted(4, 1), nothing)
		p.refuse(newOrder(5, side, api.Limit, 1, 100), 5, 8)
		// The other side has a Total of its own.
		p.refuse(newOrder(5, other, api.Loc, 11, 100), 5, 8)
		p.send(newOrder(5, other, api.Loc, 10, 100), accepted(5, 10), nothing)
		p.refuse(newOrder(6, other, api.Loc, 1, 100), 6, 8)
		// What was reduced and cancelled counts no more.
		p.send(reduce(1, 1), reduced(1, 1), nothing)
		p.refuse(newOrder(6, side, api.Limit, 2, 100), 6, 8)
		p.send(newOrder(6, side, api.Limit, 1, 100), accepted(6, 1), nothing)
		p.send(cancel(2), cancelled(2, 3), nothing)
		p.refuse(newOrder(7, side, api.Limit, 4, 100), 7, 8)
		p.send(newOrder(7, side, api.Limit, 3, 100), accepted(7, 3), nothing)
	}
}

func TestTotalAtItsHighest(t *testing.T) {
	c := plainConfig()
	c.Orders, c.Total = 24, 1000000000
	p := start(t, c)
	for _, side := range []int{api.Buy, api.Sell} {
		p.refuse(newOrder(1, side, api.Loc, 1000000001, 100), 1, 8)
		p.refuse(newOrder(1, side, api.Loc, top, 100), 1, 8)
		p.refuse(newOrder(1, side, api.Loc, math.MaxInt32, 100), 1, 8)
	}
	p.send(newOrder(1, api.Buy, api.Limit, 999999999, 1000000), accepted(1, 999999999), indicated(0, 0, 0))
	p.refuse(newOrder(2, api.Buy, api.Limit, 2, 1000000), 2, 8)
	p.send(newOrder(2, api.Buy, api.Limit, 1, 1000000), accepted(2, 1), indicated(0, 0, 0))
	p.refuse(newOrder(3, api.Buy, api.Limit, top, 1000000), 3, 8)
	p.refuse(newOrder(3, api.Buy, api.Limit, top-999999999, 1000000), 3, 8)
	p.send(newOrder(3, api.Sell, api.Market, 1, 0), accepted(3, 1), indicated(1000000, 1, 999999999))
	p.send(newOrder(4, api.Sell, api.Limit, 999999999, 1), accepted(4, 999999999), indicated(100, 1000000000, 0))
}

// Each number of a command at both ends.
func TestNumbersAtTheirEnds(t *testing.T) {
	p := start(t, smallConfig())
	p.send(newOrder(0, api.Buy, api.Limit, 1, 1), accepted(0, 1), indicated(0, 0, 0))
	p.send(newOrder(top, api.Sell, api.Limit, 1, 1000000), accepted(top, 1), indicated(0, 0, 0))
	p.wantOrders(
		api.Order{Id: 0, Side: 1, Type: 1, Price: 1, Rest: 1},
		api.Order{Id: top, Side: 2, Type: 1, Price: 1000000, Rest: 1})
	p.refuse(newOrder(0, api.Buy, api.Limit, top, top), 0, 2)
	p.refuse(newOrder(top, api.Buy, api.Limit, top, top), top, 2)
	p.refuse(newOrder(1, api.Buy, api.Limit, top, top), 1, 5)
	p.refuse(newOrder(1, api.Buy, api.Limit, 0, top), 1, 4)
	p.send(reduce(0, top), cancelled(0, 1), indicated(0, 0, 0))
	p.send(cancel(top), cancelled(top, 1), indicated(0, 0, 0))
	p.wantOrders()
}
