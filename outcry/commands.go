package outcry

import (
	"outcry/api"
	"outcry/book"
	"outcry/wire"
)

// obey carries out a command, and gives the events that it makes, without their Seqs.
func (m *Market) obey(c wire.Command) []api.Event {
	if reason := m.reason(c); reason != noReason {
		return []api.Event{rejected(c.Id, reason)}
	}
	if c.Kind == wire.Tick {
		return m.tick(c.Time)
	}
	return append(m.change(c), m.rules().behind(m)...)
}

// change carries out a command that is about one order.
func (m *Market) change(c wire.Command) []api.Event {
	switch c.Kind {
	case wire.Cancel:
		return []api.Event{m.cancel(m.book.Find(c.Id))}
	case wire.Reduce:
		return []api.Event{m.reduce(m.book.Find(c.Id), c.Qty)}
	}
	return m.accept(c)
}

func (m *Market) accept(c wire.Command) []api.Event {
	o := m.book.Add(api.Order{
		Id:      c.Id,
		Side:    c.Side,
		Type:    c.Type,
		Price:   c.Price,
		Rest:    c.Qty,
		Waiting: m.rules().waits(c.Type),
	})
	events := []api.Event{{Kind: api.Accepted, Id: c.Id, Qty: c.Qty}}
	return append(events, m.rules().arrive(m, o)...)
}

func (m *Market) cancel(o *book.Order) api.Event {
	m.book.Remove(o)
	return api.Event{Kind: api.Cancelled, Id: o.Id, Qty: o.Rest}
}

func (m *Market) reduce(o *book.Order, by int) api.Event {
	if by >= o.Rest {
		return m.cancel(o)
	}
	o.Rest -= by
	return api.Event{Kind: api.Reduced, Id: o.Id, Qty: by}
}
