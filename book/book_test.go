package book

import (
	"iter"
	"slices"
	"testing"

	"outcry/api"
)

const (
	buy, sell                   = api.Buy, api.Sell
	limit, market, moo, atClose = api.Limit, api.Market, api.Moo, api.Loc
)

// bookOf accepts orders of one side with the ids 1, 2, .., each of a rest of 10.
func bookOf(side int, orders ...api.Order) *Book {
	b := New()
	for i, o := range orders {
		o.Id, o.Side, o.Rest, o.Waiting = i+1, side, 10, o.Type == atClose
		b.Add(o)
	}
	return b
}

func ids(orders iter.Seq[*Order]) []int {
	var ids []int
	for o := range orders {
		ids = append(ids, o.Id)
	}
	return ids
}

func wantIds(t *testing.T, what string, got []int, want ...int) {
	t.Helper()
	if !slices.Equal(got, want) {
		t.Errorf("%s: %v, want %v", what, got, want)
	}
}

var mixed = []api.Order{
	{Type: limit, Price: 100}, {Type: limit, Price: 102}, {Type: market}, {Type: limit, Price: 100},
	{Type: atClose, Price: 101}, {Type: moo}, {Type: limit, Price: 102}, {Type: limit, Price: 1},
	{Type: market}, {Type: limit, Price: 1000000}, {Type: limit, Price: 100},
}

func TestPriority(t *testing.T) {
	wantIds(t, "Buys", ids(bookOf(buy, mixed...).Buys()), 3, 6, 9, 10, 2, 7, 1, 4, 11, 8)
	wantIds(t, "Sells", ids(bookOf(sell, mixed...).Sells()), 3, 6, 9, 8, 1, 4, 11, 2, 7, 10)
	wantIds(t, "Sells of Buy orders", ids(bookOf(buy, mixed...).Sells()))
	wantIds(t, "Buys of Sell orders", ids(bookOf(sell, mixed...).Buys()))
	wantIds(t, "Buys of none", ids(New().Buys()))
}

func TestPriorityStaysBehindReduceAndRemove(t *testing.T) {
	b := bookOf(buy, mixed...)
	for _, id := range []int{1, 2, 3, 6} {
		b.Find(id).Rest = 1
	}
	wantIds(t, "Buys", ids(b.Buys()), 3, 6, 9, 10, 2, 7, 1, 4, 11, 8)
	b.Remove(b.Find(2))
	b.Remove(b.Find(6))
	wantIds(t, "Buys", ids(b.Buys()), 3, 9, 10, 7, 1, 4, 11, 8)
	b.Add(api.Order{Id: 20, Side: buy, Type: limit, Price: 102, Rest: 1})
	b.Add(api.Order{Id: 21, Side: buy, Type: moo, Rest: 1})
	wantIds(t, "Buys", ids(b.Buys()), 3, 9, 21, 10, 7, 20, 1, 4, 11, 8)
}

// A waiting order keeps its place among those of its price, for when it waits no more.
func TestWaitingOrdersArePassedOver(t *testing.T) {
	b := bookOf(sell, api.Order{Type: limit, Price: 100}, api.Order{Type: atClose, Price: 100}, api.Order{Type: limit, Price: 100})
	wantIds(t, "Sells", ids(b.Sells()), 1, 3)
	b.Release()
	wantIds(t, "Sells", ids(b.Sells()), 1, 2, 3)
}

func TestReleaseEndsAllWaiting(t *testing.T) {
	b := New()
	b.Release()
	b.Add(api.Order{Id: 1, Side: sell, Type: atClose, Price: 3, Rest: 2, Waiting: true})
	b.Add(api.Order{Id: 2, Side: buy, Type: atClose, Price: 3, Rest: 2, Waiting: true})
	b.Add(api.Order{Id: 3, Side: buy, Type: limit, Price: 3, Rest: 2})
	b.Release()
	for _, o := range b.Live() {
		if o.Waiting {
			t.Errorf("%+v waits", o.Order)
		}
	}
	wantIds(t, "Buys", ids(b.Buys()), 2, 3)
	wantIds(t, "Sells", ids(b.Sells()), 1)
}

// An order that was just traded whole is passed over, though it is not dropped yet.
func TestOrdersWithoutARestArePassedOver(t *testing.T) {
	b := bookOf(buy, mixed...)
	b.Find(3).Rest = 0
	b.Find(7).Rest = 0
	wantIds(t, "Buys", ids(b.Buys()), 6, 9, 10, 2, 1, 4, 11, 8)
	var seen []int
	for o := range b.Buys() {
		seen = append(seen, o.Id)
		b.Find(2).Rest = 0
	}
	wantIds(t, "Buys, with 2 traded meanwhile", seen, 6, 9, 10, 1, 4, 11, 8)
}

func TestGoingThroughStopsEarly(t *testing.T) {
	for side, orders := range map[int]func(*Book) iter.Seq[*Order]{buy: (*Book).Buys, sell: (*Book).Sells} {
		b := bookOf(side, mixed...)
		for stop := 1; stop <= 10; stop++ {
			seen := 0
			for range orders(b) {
				seen++
				if seen == stop {
					break
				}
			}
			if seen != stop {
				t.Errorf("side %d: %d orders gone through, want %d", side, seen, stop)
			}
		}
	}
}

// What a side would trade at a price is asked of the orders that take it, and of the first one that does not.
func TestRestsAtStopsAtTheFirstThatDoesNotTakeThePrice(t *testing.T) {
	b := bookOf(buy, api.Order{Type: limit, Price: 99}, api.Order{Type: market}, api.Order{Type: limit, Price: 101}, api.Order{Type: limit, Price: 98})
	asked := 0
	counted := func(yield func(*Order) bool) {
		for o := range b.Buys() {
			asked++
			if !yield(o) {
				return
			}
		}
	}
	for _, x := range []struct{ price, want, asked int }{
		{1, 40, 4}, {98, 40, 4}, {99, 30, 4}, {100, 20, 3}, {101, 20, 3}, {102, 10, 2}, {1000000, 10, 2},
	} {
		asked = 0
		if got := restsAt(counted)(x.price); got != x.want || asked != x.asked {
			t.Errorf("rests at %d: %d, of %d orders, want %d, of %d", x.price, got, asked, x.want, x.asked)
		}
	}
}

// What D and S are hangs on how the book stands when they are asked.
func TestRestsAtFollowTheBook(t *testing.T) {
	b := bookOf(sell, api.Order{Type: limit, Price: 100})
	supply := restsAt(b.Sells())
	if got := supply(100); got != 10 {
		t.Errorf("S(100) = %d, want 10", got)
	}
	b.Find(1).Rest = 4
	b.Add(api.Order{Id: 2, Side: sell, Type: market, Rest: 3})
	if low, high := supply(99), supply(100); low != 3 || high != 7 {
		t.Errorf("S(99), S(100) = %d, %d, want 3, 7", low, high)
	}
}

func TestIdsAreKnownOnceAccepted(t *testing.T) {
	b := bookOf(buy, mixed[0])
	if !b.WasAccepted(1) || b.WasAccepted(0) || b.WasAccepted(2) {
		t.Errorf("order 1 alone was accepted")
	}
	b.Remove(b.Find(1))
	if !b.WasAccepted(1) || b.Find(1) != nil {
		t.Errorf("order 1 was accepted, and is not live any more")
	}
}

func live(b *Book) []api.Order {
	var orders []api.Order
	for _, o := range b.Live() {
		orders = append(orders, o.Order)
	}
	return orders
}

func TestLiveCountAndTotal(t *testing.T) {
	b := New()
	b.Add(api.Order{Id: 5, Side: sell, Type: limit, Price: 3, Rest: 7})
	b.Add(api.Order{Id: 4, Side: buy, Type: atClose, Price: 3, Rest: 2, Waiting: true})
	b.Add(api.Order{Id: 6, Side: sell, Type: market, Rest: 8})
	if b.Count() != 3 || b.Total(buy) != 2 || b.Total(sell) != 15 {
		t.Errorf("Count() = %d, Total = %d, %d, want 3, 2, 15", b.Count(), b.Total(buy), b.Total(sell))
	}
	want := []api.Order{
		{Id: 5, Side: sell, Type: limit, Price: 3, Rest: 7},
		{Id: 4, Side: buy, Type: atClose, Price: 3, Rest: 2, Waiting: true},
		{Id: 6, Side: sell, Type: market, Rest: 8},
	}
	if got := live(b); !slices.Equal(got, want) {
		t.Errorf("Live() = %+v, want %+v", got, want)
	}
	b.Remove(b.Find(5))
	b.Add(api.Order{Id: 1, Side: buy, Type: moo, Rest: 1})
	want = append(want[1:], api.Order{Id: 1, Side: buy, Type: moo, Rest: 1})
	if got := live(b); !slices.Equal(got, want) || b.Count() != 3 {
		t.Errorf("Live() = %+v, Count() = %d, want %+v", got, b.Count(), want)
	}
}
