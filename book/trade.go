package book

import "outcry/api"

// Trade between two orders, that are named by their ids.
type Trade struct {
	Buyer, Seller, Qty, Price int
}

// Meet trades an order with those that rest on the other side, as long as it
// has a rest and takes their prices.
func (b *Book) Meet(o *Order) []Trade {
	var trades []Trade
	for resting := range b.facing(o.Side) {
		if o.Rest == 0 || !o.takes(resting.Price) {
			break
		}
		trades = append(trades, trade(o, resting, min(o.Rest, resting.Rest), resting.Price))
	}
	b.dropTraded()
	return trades
}

// Uncross trades the call's volume at its price, always between the first
// orders of both sides.
func (b *Book) Uncross(c Call) []Trade {
	var trades []Trade
	left := c.Volume
	for buyer := range b.Buys() {
		for seller := range b.Sells() {
			qty := min(buyer.Rest, seller.Rest, left)
			if qty == 0 {
				break
			}
			trades = append(trades, trade(buyer, seller, qty, c.Price))
			left -= qty
		}
		if left == 0 {
			break
		}
	}
	b.dropTraded()
	return trades
}

// trade takes a quantity off two orders, one of each side.
func trade(one, other *Order, qty, price int) Trade {
	one.Rest -= qty
	other.Rest -= qty
	buyer, seller := one, other
	if one.Side == api.Sell {
		buyer, seller = other, one
	}
	return Trade{Buyer: buyer.Id, Seller: seller.Id, Qty: qty, Price: price}
}
