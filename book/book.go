// Package book holds the live orders of a market, gives them in the order of priority, finds the call's price, and trades.
package book

import (
	"cmp"
	"iter"
	"math"
	"slices"

	"outcry/api"
)

// Order that is live.
type Order struct {
	api.Order
	turn int // how many orders were accepted ahead of it
}

// Book has all live orders: the waiting ones too, though Buys and Sells pass over these.
type Book struct {
	queues [api.Sell + 1][]*Order // by side, in the order of priority
	ids    map[int]struct{}       // of all orders that were ever accepted
}

// New makes a book without orders.
func New() *Book {
	return &Book{ids: map[int]struct{}{}}
}

// Add takes in an order that is accepted.
func (b *Book) Add(o api.Order) *Order {
	added := &Order{Order: o, turn: len(b.ids)}
	b.ids[o.Id] = struct{}{}
	queue := b.queues[o.Side]
	isBehind := func(other *Order) bool { return !other.takes(added.limit()) }
	at := slices.IndexFunc(queue, isBehind)
	if at < 0 {
		at = len(queue)
	}
	b.queues[o.Side] = slices.Insert(queue, at, added)
	return added
}

// Remove takes out an order, which is not live any more.
func (b *Book) Remove(o *Order) {
	b.drop(func(other *Order) bool { return other == o })
}

// dropTraded takes out the orders that were traded whole. It waits till the
// book is gone through: an iterator must not lose its place.
func (b *Book) dropTraded() {
	b.drop(func(o *Order) bool { return o.Rest == 0 })
}

func (b *Book) drop(isGone func(o *Order) bool) {
	for side, queue := range b.queues {
		b.queues[side] = slices.DeleteFunc(queue, isGone)
	}
}

// Release ends all waiting. The queues have waiting orders in their places already.
func (b *Book) Release() {
	for _, queue := range b.queues {
		for _, o := range queue {
			o.Waiting = false
		}
	}
}

// Buys goes through the Buy orders in the book, in the order of priority.
func (b *Book) Buys() iter.Seq[*Order] { return b.inPriority(api.Buy) }

// Sells goes through the Sell orders in the book, in the order of priority.
func (b *Book) Sells() iter.Seq[*Order] { return b.inPriority(api.Sell) }

// facing goes through the orders that one of a side may trade with.
func (b *Book) facing(side int) iter.Seq[*Order] {
	if side == api.Buy {
		return b.Sells()
	}
	return b.Buys()
}

func (b *Book) inPriority(side int) iter.Seq[*Order] {
	return func(yield func(*Order) bool) {
		for _, o := range b.queues[side] {
			if o.isInBook() && !yield(o) {
				return
			}
		}
	}
}

// Find gives the live order with an id, or nil.
func (b *Book) Find(id int) *Order {
	for _, queue := range b.queues {
		for _, o := range queue {
			if o.Id == id {
				return o
			}
		}
	}
	return nil
}

// WasAccepted tells whether an order with an id ever was, live or not.
func (b *Book) WasAccepted(id int) bool {
	_, was := b.ids[id]
	return was
}

// Count tells how many orders are live.
func (b *Book) Count() int {
	return len(b.queues[api.Buy]) + len(b.queues[api.Sell])
}

// Total tells the rests of all live orders of a side together.
func (b *Book) Total(side int) int {
	sum := 0
	for _, o := range b.queues[side] {
		sum += o.Rest
	}
	return sum
}

// Live gives all live orders, in the order in which they were accepted.
func (b *Book) Live() []*Order {
	live := slices.Concat(b.queues[:]...)
	slices.SortFunc(live, func(one, other *Order) int { return cmp.Compare(one.turn, other.turn) })
	return live
}

// isInBook passes over an order without a rest too: what was just traded whole
// is not dropped yet.
func (o *Order) isInBook() bool {
	return !o.Waiting && o.Rest > 0
}

// limit tells the worst price that an order takes.
func (o *Order) limit() int {
	switch {
	case o.Price != 0:
		return o.Price
	case o.Side == api.Buy:
		return math.MaxInt
	}
	return 0
}

// takes tells whether a price is not worse than the order's own. All orders
// that stand ahead of it take that price then too.
func (o *Order) takes(price int) bool {
	if o.Side == api.Buy {
		return o.limit() >= price
	}
	return o.limit() <= price
}
