package outcry

import (
	"outcry/api"
	"outcry/book"
	"outcry/wire"
)

// tell gives the bytes of events, with their Seqs.
func (m *Market) tell(events ...api.Event) []byte {
	var b []byte
	for _, e := range events {
		m.look.Seq = seqBehind(m.look.Seq)
		e.Seq = m.look.Seq
		b = wire.Append(b, e)
	}
	return b
}

func seqBehind(seq int) int {
	return int(uint32(seq) + 1)
}

func rejected(id int, reason api.Reason) api.Event {
	return api.Event{Kind: api.Rejected, Id: id, Reason: reason}
}

// calledAs tells what a call comes to, as Indicated or as Uncrossed.
func calledAs(kind int, call book.Call) api.Event {
	return api.Event{Kind: kind, Price: call.Price, Qty: call.Volume, Surplus: call.Surplus}
}
