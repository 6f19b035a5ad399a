package outcry

import (
	"outcry/api"
	"outcry/book"
)

func (m *Market) doNothing() []api.Event { return nil }

// rest leaves an order as it is: it stands in the book from when it was accepted.
func (m *Market) rest(*book.Order) []api.Event { return nil }

// meet trades an order at once, but if it waits.
func (m *Market) meet(o *book.Order) []api.Event {
	if o.Waiting {
		return nil
	}
	events := m.trade(m.book.Meet(o))
	if o.Type == api.Market && o.Rest > 0 {
		events = append(events, m.cancel(o))
	}
	return events
}

func (m *Market) indicate() []api.Event {
	return []api.Event{calledAs(api.Indicated, m.book.Call(m.look.Reference))}
}

func (m *Market) uncross() []api.Event {
	call := m.book.Call(m.look.Reference)
	events := []api.Event{calledAs(api.Uncrossed, call)}
	return append(events, m.trade(m.book.Uncross(call))...)
}

// trade tells what the book has traded; the last price is the reference then.
func (m *Market) trade(trades []book.Trade) []api.Event {
	var events []api.Event
	for _, t := range trades {
		m.look.Reference = t.Price
		events = append(events, api.Event{Kind: api.Trade, Buyer: t.Buyer, Seller: t.Seller, Qty: t.Qty, Price: t.Price})
	}
	return events
}

func (m *Market) release() []api.Event {
	m.book.Release()
	return m.indicate()
}

func (m *Market) cancelWithoutPrice() []api.Event {
	return m.cancelThose(func(o *book.Order) bool { return !hasPrice(o.Type) })
}

func (m *Market) cancelAll() []api.Event {
	return m.cancelThose(func(*book.Order) bool { return true })
}

// cancelThose cancels orders in the order in which they were accepted.
func (m *Market) cancelThose(isOne func(o *book.Order) bool) []api.Event {
	var events []api.Event
	for _, o := range m.book.Live() {
		if isOne(o) {
			events = append(events, m.cancel(o))
		}
	}
	return events
}
