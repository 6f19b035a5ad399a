package outcry_test

import (
	"bytes"
	"slices"
	"testing"

	"outcry/api"
	"outcry/outcry"
)

func number(n int) []byte {
	return []byte{byte(n >> 24), byte(n >> 16), byte(n >> 8), byte(n)}
}

func newOrder(id, side, orderType, qty, price int) []byte {
	return slices.Concat([]byte{1}, number(id), []byte{byte(side), byte(orderType)}, number(qty), number(price))
}

func cancel(id int) []byte { return glue(2, number(id)) }

func reduce(id, qty int) []byte { return glue(3, number(id), number(qty)) }

func tick(time int) []byte { return glue(4, number(time)) }

func accepted(id, qty int) api.Event { return api.Event{Kind: 1, Id: id, Qty: qty} }

func rejected(id int, reason api.Reason) api.Event { return api.Event{Kind: 2, Id: id, Reason: reason} }

func cancelled(id, qty int) api.Event { return api.Event{Kind: 4, Id: id, Qty: qty} }

func reduced(id, qty int) api.Event { return api.Event{Kind: 5, Id: id, Qty: qty} }

func indicated(price, volume int, surplus int64) api.Event {
	return api.Event{Kind: 6, Price: price, Qty: volume, Surplus: surplus}
}

func uncrossed(price, volume int, surplus int64) api.Event {
	return api.Event{Kind: 7, Price: price, Qty: volume, Surplus: surplus}
}

func traded(buyer, seller, qty, price int) api.Event {
	return api.Event{Kind: 3, Buyer: buyer, Seller: seller, Qty: qty, Price: price}
}

func turned(phase int) api.Event { return api.Event{Kind: 8, Phase: phase} }

// roomyConfig has limits that are not met.
func roomyConfig() api.Config {
	return api.Config{Reference: 100, Open: 10, Close: 20, End: 30, Orders: 24, Total: 1000}
}

// startIn starts a market without orders at the first time of a phase.
func startIn(t *testing.T, phase int, c api.Config) *play {
	t.Helper()
	p := start(t, c)
	p.do(tick([]int{0, c.Open, c.Close, c.End}[phase]))
	if got := p.m.Look().Phase; got != phase {
		t.Fatalf("P7: the phase is %d, want %d", got, phase)
	}
	return p
}

// play is a market, and the Seq that its last event must have had.
type play struct {
	t   *testing.T
	m   *outcry.Market
	seq int
}

func start(t *testing.T, c api.Config) *play {
	t.Helper()
	m, errno := outcry.New(c)
	if m == nil || errno != api.OK {
		t.Fatalf("P3: New(%+v) = %v, %d", c, m, errno)
	}
	return &play{t: t, m: m}
}

// send wants these events, with the Seqs that come next.
func (p *play) send(command []byte, want ...api.Event) {
	p.t.Helper()
	for i := range want {
		p.seq++
		want[i].Seq = p.seq
	}
	b, errno, place := outcry.Encode(want...)
	if errno != api.OK {
		p.t.Fatalf("P9: Encode(%+v) = %d, %d", want, errno, place)
	}
	if got := p.m.Send(command); !bytes.Equal(got, b) {
		told, _, _ := outcry.Decode(got)
		p.t.Fatalf("Send(%v) = %v\n%+v, want\n%+v", command, got, told, want)
	}
	if seq := p.m.Look().Seq; seq != p.seq {
		p.t.Fatalf("P8: Look().Seq = %d behind Send(%v), want %d", seq, command, p.seq)
	}
}

// refuse wants the command to be rejected, and all but Seq to stay.
func (p *play) refuse(command []byte, id int, reason api.Reason) {
	p.t.Helper()
	orders, look := p.m.Orders(), p.m.Look()
	p.send(command, rejected(id, reason))
	look.Seq++
	p.wantOrders(orders...)
	p.wantLook(look)
}

// do sends commands whose events do not matter here.
func (p *play) do(commands ...[]byte) {
	p.t.Helper()
	for _, c := range commands {
		p.m.Send(c)
	}
	p.seq = p.m.Look().Seq
}

func (p *play) wantReference(want int) {
	p.t.Helper()
	if got := p.m.Look().Reference; got != want {
		p.t.Fatalf("P8: the reference is %d, want %d", got, want)
	}
}

func (p *play) wantOrders(want ...api.Order) {
	p.t.Helper()
	if got := p.m.Orders(); !slices.Equal(got, want) {
		p.t.Fatalf("P8: Orders() = %+v, want %+v", got, want)
	}
}

func (p *play) wantLook(want api.Look) {
	p.t.Helper()
	if got := p.m.Look(); got != want {
		p.t.Fatalf("P8: Look() = %+v, want %+v", got, want)
	}
}
