// Package outcry: a market that calls, then trades, then calls once more: see DOC.md.
package outcry

import (
	"outcry/api"
	"outcry/book"
	"outcry/wire"
)

// Market for one thing.
type Market struct {
	config api.Config
	look   api.Look
	book   *book.Book
}

// New makes a market (P3).
func New(c api.Config) (*Market, api.Errno) {
	if !isConfig(c) {
		return nil, api.ErrConfig
	}
	look := api.Look{Phase: api.Opening, Reference: c.Reference}
	return &Market{config: c, look: look, book: book.New()}, api.OK
}

// Send takes a command, and tells the events that it makes (P4 to P7).
func (m *Market) Send(command []byte) (told []byte) {
	defer func() {
		if gaveUp := recover(); gaveUp != nil {
			// The command is read ahead of all else: nothing is changed yet.
			// As in Decode, what is no Fault is a bug.
			_ = gaveUp.(wire.Fault)
			told = m.tell(rejected(0, api.Malformed))
		}
	}()
	c := wire.NewReader(command).Command()
	return m.tell(m.obey(c)...)
}

// Orders tells the live orders (P8).
func (m *Market) Orders() []api.Order {
	var orders []api.Order
	for _, o := range m.book.Live() {
		orders = append(orders, o.Order)
	}
	return orders
}

// Look tells how the market stands (P8).
func (m *Market) Look() api.Look { return m.look }

// Encode tells events as bytes (P9).
func Encode(events ...api.Event) ([]byte, api.Errno, int) {
	var b []byte
	for place, e := range events {
		if !wire.Fits(e) {
			return nil, api.ErrKind, place
		}
		b = wire.Append(b, e)
	}
	return b, api.OK, 0
}

// Decode reads events (P9).
func Decode(b []byte) (events []api.Event, errno api.Errno, place int) {
	defer func() {
		if gaveUp := recover(); gaveUp != nil {
			// The reader panics with a Fault alone: anything else is a bug, not to be hidden as an answer.
			fault := gaveUp.(wire.Fault)
			events, errno, place = nil, fault.Errno, fault.At
		}
	}()
	r := wire.NewReader(b)
	for r.More() {
		events = append(events, r.Event())
	}
	return events, api.OK, 0
}
