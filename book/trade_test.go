package book

import (
	"slices"
	"testing"

	"outcry/api"
)

func wantTrades(t *testing.T, what string, got []Trade, want ...Trade) {
	t.Helper()
	if !slices.Equal(got, want) {
		t.Errorf("%s: %+v, want %+v", what, got, want)
	}
}

func TestMeet(t *testing.T) {
	sells := []api.Order{{Type: limit, Price: 102}, {Type: limit, Price: 100}, {Type: atClose, Price: 90}, {Type: limit, Price: 100}}
	for _, x := range []struct {
		what   string
		comes  api.Order
		trades []Trade
		rest   int
		left   []int
	}{
		{"below all prices", api.Order{Type: limit, Price: 99, Rest: 5}, nil, 5, []int{2, 4, 1}},
		{"at the best price", api.Order{Type: limit, Price: 100, Rest: 5}, []Trade{{20, 2, 5, 100}}, 0, []int{2, 4, 1}},
		{"all of the first order", api.Order{Type: limit, Price: 100, Rest: 10}, []Trade{{20, 2, 10, 100}}, 0, []int{4, 1}},
		{"all of a price, and no more", api.Order{Type: limit, Price: 101, Rest: 30}, []Trade{{20, 2, 10, 100}, {20, 4, 10, 100}}, 10, []int{1}},
		{"all there is", api.Order{Type: market, Rest: 31}, []Trade{{20, 2, 10, 100}, {20, 4, 10, 100}, {20, 1, 10, 102}}, 1, nil},
	} {
		b := bookOf(sell, sells...)
		x.comes.Id, x.comes.Side = 20, buy
		o := b.Add(x.comes)
		wantTrades(t, x.what, b.Meet(o), x.trades...)
		wantIds(t, x.what, ids(b.Sells()), x.left...)
		if o.Rest != x.rest || b.Find(3).Rest != 10 {
			t.Errorf("%s: the rest is %d, that of the waiting order %d, want %d and 10", x.what, o.Rest, b.Find(3).Rest, x.rest)
		}
		if isLive := b.Find(20) != nil; isLive != (x.rest > 0) {
			t.Errorf("%s: live: %t, with a rest of %d", x.what, isLive, x.rest)
		}
	}
}

func TestMeetOfSell(t *testing.T) {
	b := bookOf(buy, api.Order{Type: limit, Price: 98}, api.Order{Type: limit, Price: 100}, api.Order{Type: limit, Price: 99})
	o := b.Add(api.Order{Id: 20, Side: sell, Type: limit, Price: 99, Rest: 25})
	wantTrades(t, "Sell", b.Meet(o), Trade{2, 20, 10, 100}, Trade{3, 20, 10, 99})
	wantIds(t, "Buys", ids(b.Buys()), 1)
	wantIds(t, "Sells", ids(b.Sells()), 20)
	if o.Rest != 5 || b.Count() != 2 {
		t.Errorf("the rest is %d, and %d are live, want 5 and 2", o.Rest, b.Count())
	}
}

// No more than the volume is traded, though the orders would give more.
func TestUncrossEndsWithTheVolume(t *testing.T) {
	for volume, want := range [][]Trade{
		nil,
		{{2, 4, 1, 7}},
		{{2, 4, 2, 7}},
		{{2, 4, 2, 7}, {2, 3, 1, 7}},
		{{2, 4, 2, 7}, {2, 3, 1, 7}, {1, 3, 1, 7}},
		{{2, 4, 2, 7}, {2, 3, 1, 7}, {1, 3, 2, 7}},
	} {
		b := New()
		b.Add(api.Order{Id: 1, Side: buy, Type: limit, Price: 50, Rest: 4})
		b.Add(api.Order{Id: 2, Side: buy, Type: market, Rest: 3})
		b.Add(api.Order{Id: 3, Side: sell, Type: limit, Price: 5, Rest: 5})
		b.Add(api.Order{Id: 4, Side: sell, Type: limit, Price: 4, Rest: 2})
		b.Add(api.Order{Id: 5, Side: sell, Type: atClose, Price: 1, Rest: 2, Waiting: true})
		wantTrades(t, "Uncross", b.Uncross(Call{Price: 7, Volume: volume}), want...)
		if bought, sold := 7-b.Total(buy), 9-b.Total(sell); bought != volume || sold != volume {
			t.Errorf("%d bought and %d sold, want %d", bought, sold, volume)
		}
		for _, o := range b.Live() {
			if o.Rest == 0 {
				t.Errorf("%+v is live", o.Order)
			}
		}
	}
}
