package outcry_test

import (
	"bytes"
	"math/rand/v2"
	"slices"
	"testing"

	"outcry/api"
	"outcry/outcry"
)

// witness knows the orders by what was asked for, and what became of them by
// the events alone.
type witness struct {
	t         *testing.T
	asked     map[int]wish
	rests     map[int]int // of all orders that were accepted
	order     []int       // the ids, as they were accepted
	phase     int
	reference int
}

func newWitness(t *testing.T, c api.Config) *witness {
	return &witness{t: t, asked: map[int]wish{}, rests: map[int]int{}, reference: c.Reference}
}

// inBook gives a side's ids in the order of priority.
func (w *witness) inBook(side int) []int {
	var ids []int
	for _, id := range w.order {
		o := w.asked[id]
		if o.side == side && w.rests[id] > 0 && (o.orderType != 4 || w.phase >= 2) {
			ids = append(ids, id)
		}
	}
	slices.SortStableFunc(ids, func(one, other int) int {
		a, b := w.asked[one].price, w.asked[other].price
		switch {
		case a == 0 || b == 0:
			return min(a, 1) - min(b, 1)
		case side == 1:
			return b - a
		}
		return a - b
	})
	return ids
}

func (w *witness) volume(price int) int {
	sums := [3]int{}
	for _, side := range []int{1, 2} {
		for _, id := range w.inBook(side) {
			if w.takes(id, price) {
				sums[side] += w.rests[id]
			}
		}
	}
	return min(sums[1], sums[2])
}

func (w *witness) takes(id, price int) bool {
	o := w.asked[id]
	return o.price == 0 || o.side == 1 && o.price >= price || o.side == 2 && o.price <= price
}

// wantMostVolume: V changes only at an order's price, or one behind it.
func (w *witness) wantMostVolume(e api.Event) {
	w.t.Helper()
	prices := []int{1, 1000000, w.reference}
	for _, id := range w.order {
		if p := w.asked[id].price; w.rests[id] > 0 && p != 0 {
			prices = append(prices, max(1, p-1), p, min(p+1, 1000000))
		}
	}
	for _, p := range prices {
		if v := w.volume(p); v > e.Qty {
			w.t.Fatalf("P10: V(%d) = %d, above that of the call's price, %+v", p, v, e)
		}
	}
	if e.Price != 0 && w.volume(e.Price) != e.Qty {
		w.t.Fatalf("P10: V(%d) = %d, and not as in %+v", e.Price, w.volume(e.Price), e)
	}
}

// take takes a quantity off an order that is live.
func (w *witness) take(id int, e api.Event) {
	w.t.Helper()
	if w.rests[id] == 0 || e.Qty <= 0 || e.Qty > w.rests[id] {
		w.t.Fatalf("P12: %+v: the rest of %d is %d", e, id, w.rests[id])
	}
	w.rests[id] -= e.Qty
}

// see is told a command, and all events that it made.
func (w *witness) see(c wish, events []api.Event) {
	w.t.Helper()
	left, price := 0, 0 // of the call that is uncrossed
	for i, e := range events {
		if left > 0 && e.Kind != 3 {
			w.t.Fatalf("P10: %d of the volume are not traded ahead of %+v", left, e)
		}
		switch e.Kind {
		case 1:
			if i != 0 || e.Id != c.id || e.Qty != c.qty || w.rests[e.Id] != 0 {
				w.t.Fatalf("P5: %+v of %+v", e, c)
			}
			w.asked[e.Id], w.rests[e.Id], w.order = c, e.Qty, append(w.order, e.Id)
		case 2:
			if len(events) != 1 {
				w.t.Fatalf("P4: %+v", events)
			}
		case 3:
			if price != 0 {
				w.seeUncrossed(e, left, price)
				left -= e.Qty
			}
			w.take(e.Buyer, e)
			w.take(e.Seller, e)
			w.reference = e.Price
		case 4:
			w.take(e.Id, e)
			if w.rests[e.Id] != 0 {
				w.t.Fatalf("P12: %+v leaves %d", e, w.rests[e.Id])
			}
		case 5:
			w.take(e.Id, e)
			if w.rests[e.Id] == 0 {
				w.t.Fatalf("P6: %+v leaves nothing", e)
			}
		case 6:
			w.wantMostVolume(e)
		case 7:
			w.wantMostVolume(e)
			left, price = e.Qty, e.Price
		case 8:
			w.phase, price = e.Phase, 0
		}
	}
}

// seeUncrossed: a trade of an uncrossing, of which a volume is left.
func (w *witness) seeUncrossed(e api.Event, left, price int) {
	w.t.Helper()
	if e.Price != price || e.Qty > left {
		w.t.Fatalf("P10: %+v, where %d at %d are left of the volume", e, left, price)
	}
	if !w.takes(e.Buyer, e.Price) || !w.takes(e.Seller, e.Price) {
		w.t.Fatalf("P10: %+v is worse than the price of one of them", e)
	}
	if e.Buyer != w.inBook(1)[0] || e.Seller != w.inBook(2)[0] {
		w.t.Fatalf("P10: %+v, but the first orders are %d and %d", e, w.inBook(1)[0], w.inBook(2)[0])
	}
}

// wantAsSeen holds what the market tells of itself against the events.
func (w *witness) wantAsSeen(m *outcry.Market) {
	w.t.Helper()
	live := 0
	for _, id := range w.order {
		live += min(1, w.rests[id])
	}
	orders := m.Orders()
	if len(orders) != live {
		w.t.Fatalf("P12: %d orders are live, by the events %d", len(orders), live)
	}
	for _, o := range orders {
		if o.Rest != w.rests[o.Id] || o.Rest == 0 {
			w.t.Fatalf("P12: %+v, by the events %d are left", o, w.rests[o.Id])
		}
		if o.Waiting != (o.Type == 4 && w.phase < 2) {
			w.t.Fatalf("P8: %+v in the phase %d", o, w.phase)
		}
	}
	if look := m.Look(); look.Phase != w.phase || look.Reference != w.reference {
		w.t.Fatalf("P8: %+v, by the events %d and %d", look, w.phase, w.reference)
	}
}

// wantApart: what holds in Trading behind each command.
func wantApart(t *testing.T, m *outcry.Market) {
	t.Helper()
	if m.Look().Phase != 1 {
		return
	}
	buys, sells := 0, 1<<40
	for _, o := range m.Orders() {
		switch {
		case o.Type == 2 || o.Type == 3:
			t.Fatalf("P11: %+v is live in Trading", o)
		case o.Waiting:
		case o.Side == 1:
			buys = max(buys, o.Price)
		default:
			sells = min(sells, o.Price)
		}
	}
	if buys >= sells {
		t.Fatalf("P11: the best prices are %d of Buy and %d of Sell", buys, sells)
	}
}

func TestWhatHoldsOfDrawnCommands(t *testing.T) {
	dice := rand.New(rand.NewPCG(9, 10))
	uncrossings, inTrading := 0, 0
	for range 600 {
		c := anyConfig(dice)
		c.Total += 100
		p, w := start(t, c), newWitness(t, c)
		for n := range 120 {
			command := anyWish(dice, n, p.m.Look().Time)
			events, errno, _ := outcry.Decode(p.m.Send(command.bytes()))
			if errno != api.OK {
				t.Fatalf("P4: the events of %+v are not whole", command)
			}
			phase := w.phase
			w.see(command, events)
			w.wantAsSeen(p.m)
			wantApart(t, p.m)
			for i, e := range events {
				if e.Kind == 7 && events[i+1].Kind == 3 {
					uncrossings++
				}
				if e.Kind == 3 && phase == 1 && w.phase == 1 {
					inTrading++
				}
			}
		}
	}
	if uncrossings < 300 || inTrading < 1000 {
		t.Errorf("%d calls with a volume, %d trades in Trading: too few to tell", uncrossings, inTrading)
	}
}

// Of some books all prices are held against the call's, from 1 to MaxPrice.
func TestNoPriceAtAllHasAGreaterVolume(t *testing.T) {
	dice := rand.New(rand.NewPCG(11, 12))
	for round := range 24 {
		c := roomyConfig()
		c.Reference = 1 + dice.IntN(1000000)
		p := startIn(t, []int{0, 2}[round%2], c)
		var buys, sells [1000002]int
		var told api.Event
		for id := range 24 {
			o := wish{kind: 1, id: id, side: 1 + dice.IntN(2), orderType: []int{1, 1, 1, 2}[dice.IntN(4)], qty: 1 + dice.IntN(40)}
			if o.orderType == 1 {
				o.price = []int{1, 1000000, 1 + dice.IntN(1000000), 1 + dice.IntN(1000000)}[dice.IntN(4)]
			}
			switch {
			case o.side == 2:
				sells[o.price] += o.qty
			case o.price == 0:
				buys[1000001] += o.qty
			default:
				buys[o.price] += o.qty
			}
			events, _, _ := outcry.Decode(p.m.Send(o.bytes()))
			told = events[len(events)-1]
		}
		if told.Kind != 6 {
			t.Fatalf("P5: the last event is %+v, want Indicated", told)
		}
		for price := 1; price <= 1000000; price++ {
			sells[price] += sells[price-1]
		}
		for price := 1000000; price >= 1; price-- {
			buys[price] += buys[price+1]
		}
		for price := 1; price <= 1000000; price++ {
			if v := min(buys[price], sells[price]); v > told.Qty || price == told.Price && v != told.Qty {
				t.Fatalf("P10: V(%d) = %d, and %+v", price, v, told)
			}
		}
	}
}

// A tick, and the ticks ahead of it and then it: byte by byte the same.
func TestTicksInBetweenChangeNothing(t *testing.T) {
	dice := rand.New(rand.NewPCG(13, 14))
	var turns [4]int // how many ticks turned so often
	for range 600 {
		c := anyConfig(dice)
		plain, every, some := start(t, c), start(t, c), start(t, c)
		for n := range 100 {
			now := plain.m.Look()
			command := anyWish(dice, n, now.Time)
			var ofEvery, ofSome []byte
			if command.kind == 4 {
				for time := now.Time; time < command.qty; time++ {
					ofEvery = append(ofEvery, every.m.Send(tick(time))...)
					if dice.IntN(3) == 0 {
						ofSome = append(ofSome, some.m.Send(tick(time))...)
						ofSome = append(ofSome, some.m.Send(tick(dice.IntN(time+1)))...)
					}
				}
			}
			b := command.bytes()
			want := plain.m.Send(b)
			ofEvery, ofSome = append(ofEvery, every.m.Send(b)...), append(ofSome, some.m.Send(b)...)
			if !bytes.Equal(ofEvery, want) || !bytes.Equal(ofSome, want) {
				t.Fatalf("P13: %+v at %+v: %v, with all ticks ahead of it %v, with some %v", command, now, want, ofEvery, ofSome)
			}
			for _, other := range []*play{every, some} {
				other.wantLook(plain.m.Look())
				other.wantOrders(plain.m.Orders()...)
			}
			turns[plain.m.Look().Phase-now.Phase]++
		}
	}
	for often, n := range turns {
		if n < 10 {
			t.Errorf("%d commands turned the phase %d times: too few to tell", n, often)
		}
	}
}

// The same with a tick far behind all turns.
func TestOneTickOrThree(t *testing.T) {
	dice := rand.New(rand.NewPCG(15, 16))
	for range 500 {
		one, three := start(t, roomyConfig()), start(t, roomyConfig())
		for n := range 1 + dice.IntN(24) {
			command := anyWish(dice, n, 0)
			if command.kind == 4 {
				continue
			}
			one.do(command.bytes())
			three.do(command.bytes())
		}
		want := one.m.Send(tick(top))
		var got []byte
		for _, time := range []int{10, 20, 30, top} {
			got = append(got, three.m.Send(tick(time))...)
		}
		if !bytes.Equal(got, want) {
			t.Fatalf("P13: one tick: %v, the turns one by one: %v", want, got)
		}
		three.wantLook(one.m.Look())
	}
}
