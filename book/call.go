package book

import (
	"iter"
	"math"
	"slices"
)

// Call is what a call comes to; all of it is 0 where nothing would be traded.
type Call struct {
	Price, Volume int
	Surplus       int64
}

// Call finds the call's price, from all orders in the book.
func (b *Book) Call(reference int) Call {
	demand, supply := restsAt(b.Buys()), restsAt(b.Sells())
	volume := func(price int) int { return min(demand(price), supply(price)) }
	surplus := func(price int) int { return demand(price) - supply(price) }

	prices := least(b.candidates(reference), func(price int) int { return -volume(price) })
	if volume(prices[0]) == 0 {
		return Call{}
	}
	prices = least(prices, func(price int) int { return distance(surplus(price), 0) })
	price := choose(prices, surplus, reference)
	return Call{Price: price, Volume: volume(price), Surplus: int64(surplus(price))}
}

// restsAt makes of a side's orders, in the order of priority, what they would trade at a price.
func restsAt(orders iter.Seq[*Order]) func(price int) int {
	return func(price int) int {
		sum := 0
		for o := range orders {
			if !o.takes(price) {
				break
			}
			sum += o.Rest
		}
		return sum
	}
}

// candidates gives the prices of all orders in the book that have one, and the reference.
func (b *Book) candidates(reference int) []int {
	prices := []int{reference}
	for _, orders := range []iter.Seq[*Order]{b.Buys(), b.Sells()} {
		for o := range orders {
			if o.Price != 0 {
				prices = append(prices, o.Price)
			}
		}
	}
	return prices
}

// least gives those of the prices at which a measure is the least.
func least(prices []int, measure func(price int) int) []int {
	var kept []int
	lowest := math.MaxInt
	for _, price := range prices {
		n := measure(price)
		if n < lowest {
			lowest, kept = n, nil
		}
		if n == lowest {
			kept = append(kept, price)
		}
	}
	return kept
}

// choose gives the call's price, out of those that volume and surplus leave.
func choose(prices []int, surplus func(price int) int, reference int) int {
	// The surplus never grows with the price: that of the highest one is the
	// least of all, that of the lowest one the greatest.
	lowest, highest := slices.Min(prices), slices.Max(prices)
	switch {
	case surplus(highest) > 0:
		return highest
	case surplus(lowest) < 0:
		return lowest
	}
	return least(prices, func(price int) int { return distance(price, reference) })[0]
}

func distance(one, other int) int {
	return max(one-other, other-one)
}
