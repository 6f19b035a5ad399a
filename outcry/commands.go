package outcry

import (
	"outcry/api"
	"outcry/book"
	"outcry/wire"
)

// obey carries out a command, and gives the events that it makes, without their Seqs.
func (m *Market) obey(c wire.Command) []api.Event {
	if reason := m.reason(c); reason != noReason {
		return []api.Event{rejected(c.Id, reason)}
	}
	switch c.Kind {
	case wire.New:
		return m.accept(c)
	case wire.Cancel:
		return m.cancel(m.book.Find(c.Id))
	case wire.Reduce:
		return m.reduce(m.book.Find(c.Id), c.Qty)
	}
	m.tick(c.Time)
	return nil
}

func (m *Market) accept(c wire.Command) []api.Event {
	m.book.Add(api.Order{
		Id:      c.Id,
		Side:    c.Side,
		Type:    c.Type,
		Price:   c.Price,
		Rest:    c.Qty,
		Waiting: c.Type == api.Loc,
	})
	return []api.Event{{Kind: api.Accepted, Id: c.Id, Qty: c.Qty}, m.indicated()}
}

func (m *Market) cancel(o *book.Order) []api.Event {
	m.book.Remove(o)
	return []api.Event{{Kind: api.Cancelled, Id: o.Id, Qty: o.Rest}, m.indicated()}
}

func (m *Market) reduce(o *book.Order, by int) []api.Event {
	if by >= o.Rest {
		return m.cancel(o)
	}
	o.Rest -= by
	return []api.Event{{Kind: api.Reduced, Id: o.Id, Qty: by}, m.indicated()}
}

func (m *Market) tick(time int) {
	m.look.Time = max(m.look.Time, time)
}
