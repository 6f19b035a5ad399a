// Package wire holds what commands and events are as bytes: it reads both, and writes events.
package wire

import (
	"math"

	"outcry/api"
)

// field names what an event has beside its kind and its Seq.
type field int

const (
	id field = iota
	reason
	buyer
	seller
	qty
	price
	surplus
	phase
	fields // how many there are
)

// layouts tells for each kind which fields stand behind its Seq, in their order.
var layouts = [...][]field{
	api.Accepted:  {id, qty},
	api.Rejected:  {id, reason},
	api.Trade:     {buyer, seller, qty, price},
	api.Cancelled: {id, qty},
	api.Reduced:   {id, qty},
	api.Indicated: {price, qty, surplus},
	api.Uncrossed: {price, qty, surplus},
	api.Turned:    {phase},
}

const (
	byteWidth   = 1
	numberWidth = 4
	longWidth   = 8
)

// width tells how many bytes a field takes.
func width(f field) int {
	if f == surplus {
		return longWidth
	}
	return numberWidth
}

func isKind(kind int) bool {
	return api.Accepted <= kind && kind <= api.Turned
}

func isNumber(n int64) bool {
	return 0 <= n && n <= math.MaxUint32
}

// values lays an event's fields side by side, so that a layout can pick among them.
func values(e api.Event) [fields]int64 {
	return [fields]int64{
		id:      int64(e.Id),
		reason:  int64(e.Reason),
		buyer:   int64(e.Buyer),
		seller:  int64(e.Seller),
		qty:     int64(e.Qty),
		price:   int64(e.Price),
		surplus: e.Surplus,
		phase:   int64(e.Phase),
	}
}

// event is values the other way round.
func event(kind, seq int, v [fields]int64) api.Event {
	return api.Event{
		Kind:    kind,
		Seq:     seq,
		Id:      int(v[id]),
		Reason:  api.Reason(v[reason]),
		Buyer:   int(v[buyer]),
		Seller:  int(v[seller]),
		Qty:     int(v[qty]),
		Price:   int(v[price]),
		Surplus: v[surplus],
		Phase:   int(v[phase]),
	}
}
