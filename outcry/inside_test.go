package outcry

import (
	"slices"
	"testing"

	"outcry/api"
	"outcry/wire"
)

func openMarket(t *testing.T) *Market {
	t.Helper()
	m, errno := New(api.Config{Reference: 100, Open: 10, Close: 20, End: 30, Orders: 1, Total: 5})
	if errno != api.OK {
		t.Fatalf("New: %d", errno)
	}
	return m
}

// Too many events for a test to send them all.
func TestSeqsBehindTheHighest(t *testing.T) {
	m := openMarket(t)
	m.look.Seq = 4294967294
	for _, want := range []int{4294967295, 0, 1, 2} {
		events, _, _ := Decode(m.Send([]byte{9}))
		if len(events) != 1 || events[0].Seq != want || m.Look().Seq != want {
			t.Fatalf("a rejected command: %+v, Look() = %+v, want the Seq %d", events, m.Look(), want)
		}
	}
	m.look.Seq = 4294967295
	events, _, _ := Decode(m.Send([]byte{1, 0, 0, 0, 7, 1, 1, 0, 0, 0, 5, 0, 0, 0, 1}))
	if len(events) != 2 || events[0].Seq != 0 || events[1].Seq != 1 || m.Look().Seq != 1 {
		t.Fatalf("a new order: %+v, Look() = %+v, want the Seqs 0 and 1", events, m.Look())
	}
}

// No tick turns the phase yet: it is set here by hand.
func TestTheReasonPhase(t *testing.T) {
	taken := [][]int{
		api.Opening: {api.Limit, api.Market, api.Moo, api.Loc},
		api.Trading: {api.Limit, api.Market, api.Loc},
		api.Closing: {api.Limit, api.Market, api.Loc},
		api.Closed:  {},
	}
	for phase, types := range taken {
		for _, orderType := range []int{api.Limit, api.Market, api.Moo, api.Loc} {
			right, wrong := 0, 1
			if orderType == api.Limit || orderType == api.Loc {
				right, wrong = 1, 0
			}
			// want is told if the phase takes the type, else Phase.
			look := func(m *Market, want api.Reason, qty int) {
				t.Helper()
				m.look.Phase = phase
				if !slices.Contains(types, orderType) {
					want = api.Phase
				}
				c := wire.Command{Kind: wire.New, Id: 2, Side: api.Buy, Type: orderType, Qty: qty, Price: right}
				if got := m.reason(c); got != want {
					t.Errorf("P4: phase %d, %+v: %d, want %d", phase, c, got, want)
				}
			}
			look(openMarket(t), noReason, 5)
			look(openMarket(t), api.Total, 6)
			m := openMarket(t)
			m.Send([]byte{1, 0, 0, 0, 1, 1, 1, 0, 0, 0, 1, 0, 0, 0, 1})
			look(m, api.Full, 1)
			look(m, api.Full, 6)
			for want, c := range map[api.Reason]wire.Command{
				api.Duplicate: {Kind: wire.New, Id: 1, Side: api.Buy, Type: orderType, Qty: 1, Price: right},
				api.Quantity:  {Kind: wire.New, Id: 2, Side: api.Buy, Type: orderType, Qty: 0, Price: right},
				api.Price:     {Kind: wire.New, Id: 2, Side: api.Buy, Type: orderType, Qty: 1, Price: wrong},
			} {
				if got := m.reason(c); got != want {
					t.Errorf("P4: phase %d, %+v: %d, want %d", phase, c, got, want)
				}
			}
		}
	}
}
