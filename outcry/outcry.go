// Package outcry: a market that calls, then trades, then calls once more: see DOC.md.
package outcry

import (
	"outcry/api"
	"outcry/wire"
)

// Market for one thing.
type Market struct {
	look api.Look
}

// New makes a market (P3).
func New(c api.Config) (*Market, api.Errno) {
	if !isConfig(c) {
		return nil, api.ErrConfig
	}
	return &Market{look: api.Look{Phase: api.Opening, Reference: c.Reference}}, api.OK
}

// Send takes a command (P4 to P7). It is not built yet: it answers nothing, and does nothing.
func (m *Market) Send(command []byte) []byte { return nil }

// Orders tells the live orders (P8): none, as long as Send accepts none.
func (m *Market) Orders() []api.Order { return nil }

// Look tells how the market stands (P8).
func (m *Market) Look() api.Look { return m.look }

// Encode tells events as bytes (P9).
func Encode(events ...api.Event) ([]byte, api.Errno, int) {
	var b []byte
	for place, e := range events {
		if !wire.Fits(e) {
			return nil, api.ErrKind, place
		}
		b = wire.Append(b, e)
	}
	return b, api.OK, 0
}

// Decode reads events (P9).
func Decode(b []byte) (events []api.Event, errno api.Errno, place int) {
	defer func() {
		if gaveUp := recover(); gaveUp != nil {
			// The reader panics with a Fault alone: anything else is a bug, not to be hidden as an answer.
			fault := gaveUp.(wire.Fault)
			events, errno, place = nil, fault.Errno, fault.At
		}
	}()
	r := wire.NewReader(b)
	for r.More() {
		events = append(events, r.Event())
	}
	return events, api.OK, 0
}
