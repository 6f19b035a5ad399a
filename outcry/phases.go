package outcry

import (
	"math"

	"outcry/api"
	"outcry/book"
)

// rules are what a phase has of its own.
type rules struct {
	end    func(c api.Config) int                     // the time of the turn to the next phase
	admits func(orderType int) bool                   // whether orders of a type come in
	waits  func(orderType int) bool                   // whether orders of a type wait
	arrive func(m *Market, o *book.Order) []api.Event // what an order does once it is accepted
	behind func(m *Market) []api.Event                // what is told behind a change of the orders
	leave  func(m *Market) []api.Event                // what is done ahead of the turn to the next phase
	enter  func(m *Market) []api.Event                // what is done behind the turn to this phase
}

// rules gives those of the market's phase.
func (m *Market) rules() rules {
	table := [...]rules{
		api.Opening: {
			end:    func(c api.Config) int { return c.Open },
			admits: isAnyType,
			waits:  isLoc,
			arrive: (*Market).rest,
			behind: (*Market).indicate,
			leave:  (*Market).uncross,
			enter:  (*Market).doNothing,
		},
		api.Trading: {
			end:    func(c api.Config) int { return c.Close },
			admits: isNotMoo,
			waits:  isLoc,
			arrive: (*Market).meet,
			behind: (*Market).doNothing,
			leave:  (*Market).doNothing,
			enter:  (*Market).cancelWithoutPrice,
		},
		api.Closing: {
			end:    func(c api.Config) int { return c.End },
			admits: isNotMoo,
			waits:  isNoType,
			arrive: (*Market).rest,
			behind: (*Market).indicate,
			leave:  (*Market).uncross,
			enter:  (*Market).release,
		},
		api.Closed: {
			end:    func(api.Config) int { return math.MaxInt },
			admits: isNoType,
			waits:  isNoType,
			arrive: (*Market).rest,
			behind: (*Market).doNothing,
			leave:  (*Market).doNothing,
			enter:  (*Market).cancelAll,
		},
	}
	return table[m.look.Phase]
}

func isAnyType(int) bool { return true }

func isNoType(int) bool { return false }

func isNotMoo(orderType int) bool { return orderType != api.Moo }

func isLoc(orderType int) bool { return orderType == api.Loc }

// tick sets the time, and turns the phase as often as that asks for.
func (m *Market) tick(time int) []api.Event {
	if time <= m.look.Time {
		return nil
	}
	m.look.Time = time
	var events []api.Event
	for time >= m.rules().end(m.config) {
		events = append(events, m.turn()...)
	}
	return events
}

func (m *Market) turn() []api.Event {
	events := m.rules().leave(m)
	m.look.Phase++
	events = append(events, api.Event{Kind: api.Turned, Phase: m.look.Phase})
	return append(events, m.rules().enter(m)...)
}
