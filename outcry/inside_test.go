package outcry

import (
	"testing"

	"outcry/api"
)

func openMarket(t *testing.T) *Market {
	t.Helper()
	m, errno := New(api.Config{Reference: 100, Open: 10, Close: 20, End: 30, Orders: 1, Total: 5})
	if errno != api.OK {
		t.Fatalf("New: %d", errno)
	}
	return m
}

// Too many events for a test to send them all.
func TestSeqsBehindTheHighest(t *testing.T) {
	m := openMarket(t)
	m.look.Seq = 4294967294
	for _, want := range []int{4294967295, 0, 1, 2} {
		events, _, _ := Decode(m.Send([]byte{9}))
		if len(events) != 1 || events[0].Seq != want || m.Look().Seq != want {
			t.Fatalf("a rejected command: %+v, Look() = %+v, want the Seq %d", events, m.Look(), want)
		}
	}
	m.look.Seq = 4294967295
	events, _, _ := Decode(m.Send([]byte{1, 0, 0, 0, 7, 1, 1, 0, 0, 0, 5, 0, 0, 0, 1}))
	if len(events) != 2 || events[0].Seq != 0 || events[1].Seq != 1 || m.Look().Seq != 1 {
		t.Fatalf("a new order: %+v, Look() = %+v, want the Seqs 0 and 1", events, m.Look())
	}
	m.look.Seq = 4294967293
	events, _, _ = Decode(m.Send([]byte{4, 0, 0, 0, 30}))
	if len(events) != 7 || m.Look().Seq != 4 {
		t.Fatalf("a tick: %+v, Look() = %+v, want 7 events, to the Seq 4", events, m.Look())
	}
	for i, want := range []int{4294967294, 4294967295, 0, 1, 2, 3, 4} {
		if events[i].Seq != want {
			t.Errorf("a tick: %+v, want the Seq %d", events[i], want)
		}
	}
}
