package outcry_test

import (
	"bytes"
	"math"
	"slices"
	"testing"

	"outcry/api"
	"outcry/outcry"
)

const top = 4294967295

var (
	ones = []byte{255, 255, 255, 255}
	none = []byte{0, 0, 0, 0}
)

func glue(first byte, parts ...[]byte) []byte {
	return append([]byte{first}, bytes.Join(parts, nil)...)
}

// told are events beside their bytes: each kind with a number of its own in
// each field, with 0 in all of them, and with the highest numbers.
var told = []struct {
	event api.Event
	bytes []byte
}{
	{api.Event{Kind: 1, Seq: 0x01020304, Id: 0x05060708, Qty: 0x090a0b0c}, []byte{1, 1, 2, 3, 4, 5, 6, 7, 8, 9, 10, 11, 12}},
	{api.Event{Kind: 2, Seq: 0x01020304, Id: 0x05060708, Reason: 0x090a0b0c}, []byte{2, 1, 2, 3, 4, 5, 6, 7, 8, 9, 10, 11, 12}},
	{api.Event{Kind: 3, Seq: 0x01020304, Buyer: 0x05060708, Seller: 0x090a0b0c, Qty: 0x0d0e0f10, Price: 0x11121314}, []byte{3, 1, 2, 3, 4, 5, 6, 7, 8, 9, 10, 11, 12, 13, 14, 15, 16, 17, 18, 19, 20}},
	{api.Event{Kind: 4, Seq: 0x01020304, Id: 0x05060708, Qty: 0x090a0b0c}, []byte{4, 1, 2, 3, 4, 5, 6, 7, 8, 9, 10, 11, 12}},
	{api.Event{Kind: 5, Seq: 0x01020304, Id: 0x05060708, Qty: 0x090a0b0c}, []byte{5, 1, 2, 3, 4, 5, 6, 7, 8, 9, 10, 11, 12}},
	{api.Event{Kind: 6, Seq: 0x01020304, Price: 0x05060708, Qty: 0x090a0b0c, Surplus: 0x0d0e0f1011121314}, []byte{6, 1, 2, 3, 4, 5, 6, 7, 8, 9, 10, 11, 12, 13, 14, 15, 16, 17, 18, 19, 20}},
	{api.Event{Kind: 7, Seq: 0x01020304, Price: 0x05060708, Qty: 0x090a0b0c, Surplus: 0x0d0e0f1011121314}, []byte{7, 1, 2, 3, 4, 5, 6, 7, 8, 9, 10, 11, 12, 13, 14, 15, 16, 17, 18, 19, 20}},
	{api.Event{Kind: 8, Seq: 0x01020304, Phase: 0x05060708}, []byte{8, 1, 2, 3, 4, 5, 6, 7, 8}},

	{api.Event{Kind: 1}, glue(1, none, none, none)},
	{api.Event{Kind: 2}, glue(2, none, none, none)},
	{api.Event{Kind: 3}, glue(3, none, none, none, none, none)},
	{api.Event{Kind: 4}, glue(4, none, none, none)},
	{api.Event{Kind: 5}, glue(5, none, none, none)},
	{api.Event{Kind: 6}, glue(6, none, none, none, none, none)},
	{api.Event{Kind: 7}, glue(7, none, none, none, none, none)},
	{api.Event{Kind: 8}, glue(8, none, none)},

	{api.Event{Kind: 1, Seq: top, Id: top, Qty: top}, glue(1, ones, ones, ones)},
	{api.Event{Kind: 2, Seq: top, Id: top, Reason: top}, glue(2, ones, ones, ones)},
	{api.Event{Kind: 3, Seq: top, Buyer: top, Seller: top, Qty: top, Price: top}, glue(3, ones, ones, ones, ones, ones)},
	{api.Event{Kind: 4, Seq: top, Id: top, Qty: top}, glue(4, ones, ones, ones)},
	{api.Event{Kind: 5, Seq: top, Id: top, Qty: top}, glue(5, ones, ones, ones)},
	{api.Event{Kind: 6, Seq: top, Price: top, Qty: top, Surplus: math.MaxInt64}, glue(6, ones, ones, ones, []byte{127, 255, 255, 255}, ones)},
	{api.Event{Kind: 7, Seq: top, Price: top, Qty: top, Surplus: math.MaxInt64}, glue(7, ones, ones, ones, []byte{127, 255, 255, 255}, ones)},
	{api.Event{Kind: 8, Seq: top, Phase: top}, glue(8, ones, ones)},

	{api.Event{Kind: 6, Surplus: math.MinInt64}, glue(6, none, none, none, []byte{128, 0, 0, 0}, none)},
	{api.Event{Kind: 7, Surplus: math.MinInt64}, glue(7, none, none, none, []byte{128, 0, 0, 0}, none)},
	{api.Event{Kind: 6, Surplus: -1}, glue(6, none, none, none, ones, ones)},
	{api.Event{Kind: 7, Surplus: -2}, glue(7, none, none, none, ones, []byte{255, 255, 255, 254})},
	{api.Event{Kind: 6, Surplus: top}, glue(6, none, none, none, none, ones)},
	{api.Event{Kind: 7, Surplus: top + 1}, glue(7, none, none, none, []byte{0, 0, 0, 1}, none)},
}

// allTold gives the events of told, their bytes, and where each one begins in
// them (and behind the last one, where they end).
func allTold() (events []api.Event, b []byte, starts []int) {
	for _, x := range told {
		events = append(events, x.event)
		starts = append(starts, len(b))
		b = append(b, x.bytes...)
	}
	return events, b, append(starts, len(b))
}

func wantBytes(t *testing.T, want []byte, events ...api.Event) {
	t.Helper()
	b, errno, place := outcry.Encode(events...)
	if !bytes.Equal(b, want) || errno != api.OK || place != 0 {
		t.Errorf("P9: Encode(%+v) = %v, %d, %d, want %v, OK, 0", events, b, errno, place, want)
	}
}

func wantEvents(t *testing.T, b []byte, want ...api.Event) {
	t.Helper()
	events, errno, place := outcry.Decode(b)
	if !slices.Equal(events, want) || errno != api.OK || place != 0 {
		t.Errorf("P9: Decode(%v) = %+v, %d, %d, want %+v, OK, 0", b, events, errno, place, want)
	}
}

func wantNoBytes(t *testing.T, at int, events ...api.Event) {
	t.Helper()
	b, errno, place := outcry.Encode(events...)
	if b != nil || errno != api.ErrKind || place != at {
		t.Errorf("P9: Encode(%+v) = %v, %d, %d, want nil, ErrKind, %d", events, b, errno, place, at)
	}
}

func wantNoEvents(t *testing.T, b []byte, fault api.Errno, at int) {
	t.Helper()
	events, errno, place := outcry.Decode(b)
	if events != nil || errno != fault || place != at {
		t.Errorf("P9: Decode(%v) = %+v, %d, %d, want nil, %d, %d", b, events, errno, place, fault, at)
	}
}

func TestEachKindToBytesAndBack(t *testing.T) {
	for _, x := range told {
		wantBytes(t, x.bytes, x.event)
		wantEvents(t, x.bytes, x.event)
	}
}

func TestManyEventsStandOneBehindTheOther(t *testing.T) {
	events, b, _ := allTold()
	wantBytes(t, b, events...)
	wantEvents(t, b, events...)
	for _, first := range told {
		for _, second := range told {
			both := glue(first.bytes[0], first.bytes[1:], second.bytes)
			wantBytes(t, both, first.event, second.event)
			wantEvents(t, both, first.event, second.event)
		}
	}
}

func TestNothingAtAll(t *testing.T) {
	wantBytes(t, nil)
	wantBytes(t, nil, []api.Event{}...)
	wantEvents(t, nil)
	wantEvents(t, []byte{})
}

// parts are the fields of an event behind its Kind, and the kinds that have them.
var parts = []struct {
	name  string
	set   func(e *api.Event, n int)
	kinds []int
}{
	{"Seq", func(e *api.Event, n int) { e.Seq = n }, []int{1, 2, 3, 4, 5, 6, 7, 8}},
	{"Id", func(e *api.Event, n int) { e.Id = n }, []int{1, 2, 4, 5}},
	{"Reason", func(e *api.Event, n int) { e.Reason = api.Reason(n) }, []int{2}},
	{"Buyer", func(e *api.Event, n int) { e.Buyer = n }, []int{3}},
	{"Seller", func(e *api.Event, n int) { e.Seller = n }, []int{3}},
	{"Qty", func(e *api.Event, n int) { e.Qty = n }, []int{1, 3, 4, 5, 6, 7}},
	{"Price", func(e *api.Event, n int) { e.Price = n }, []int{3, 6, 7}},
	{"Surplus", func(e *api.Event, n int) { e.Surplus = int64(n) }, []int{6, 7}},
	{"Phase", func(e *api.Event, n int) { e.Phase = n }, []int{8}},
}

var numbers = []int{1, 9, 255, 256, top - 1, top}

var noNumbers = []int{-1, -top, top + 1, top + 2, 1 << 33, 1 << 62, -1 << 62, math.MinInt, math.MinInt + 1, math.MaxInt}

// wrongEvents are events with just one fault each.
func wrongEvents() []api.Event {
	var wrong []api.Event
	for _, kind := range []int{0, 9, 10, 128, 255, 256, 257, -1, -8, -255, 1<<32 + 1, 1 << 62, math.MinInt, math.MinInt + 1, math.MaxInt} {
		wrong = append(wrong, api.Event{Kind: kind}, api.Event{Kind: kind, Seq: 1, Id: 1})
	}
	for _, p := range parts {
		for kind := 1; kind <= 8; kind++ {
			faults := noNumbers
			if !slices.Contains(p.kinds, kind) {
				faults = append(slices.Clone(numbers), noNumbers...)
			} else if p.name == "Surplus" {
				continue
			}
			for _, n := range faults {
				e := api.Event{Kind: kind}
				p.set(&e, n)
				wrong = append(wrong, e)
			}
		}
	}
	return wrong
}

func TestEachFieldOfItsKind(t *testing.T) {
	for _, p := range parts {
		ns := slices.Concat([]int{0}, numbers)
		if p.name == "Surplus" {
			ns = append(ns, noNumbers...)
		}
		for _, kind := range p.kinds {
			for _, n := range ns {
				e := api.Event{Kind: kind}
				p.set(&e, n)
				b, errno, place := outcry.Encode(e)
				if errno != api.OK || place != 0 {
					t.Errorf("P9: Encode(%+v) = %v, %d, %d", e, b, errno, place)
				}
				wantEvents(t, b, e)
			}
		}
	}
}

func TestWrongEvents(t *testing.T) {
	events, _, _ := allTold()
	for _, wrong := range wrongEvents() {
		wantNoBytes(t, 0, wrong)
		wantNoBytes(t, 0, wrong, events[0])
		wantNoBytes(t, 1, events[0], wrong)
	}
}

// A fault does not make up for another one, nor hide behind good fields.
func TestEventsWithManyFaults(t *testing.T) {
	for _, e := range []api.Event{
		{Kind: 1, Seq: 1, Id: 7, Qty: 5, Price: 1},
		{Kind: 1, Seq: 1, Id: 7, Qty: 5, Price: 1, Phase: -1},
		{Kind: 3, Seq: 1, Id: 7, Buyer: 7, Seller: 8, Qty: 5, Price: 1},
		{Kind: 3, Seq: 1, Buyer: 1, Seller: 2, Qty: 3, Price: 4, Surplus: 5},
		{Kind: 8, Seq: 1, Phase: 1, Surplus: math.MinInt64},
		{Kind: 8, Seq: -1, Phase: -1},
		{Kind: 6, Seq: 1, Price: 1, Qty: -1, Surplus: -1},
		{Kind: 0, Seq: -1, Id: -1, Reason: -1, Buyer: -1, Seller: -1, Qty: -1, Price: -1, Surplus: -1, Phase: -1},
	} {
		wantNoBytes(t, 0, e)
	}
}

func TestThePlaceOfTheFirstWrongEvent(t *testing.T) {
	good, _, _ := allTold()
	for _, wrong := range []api.Event{{}, {Kind: 9}, {Kind: 1, Seq: -1}, {Kind: 1, Price: 1}, {Kind: 8, Phase: top + 1}} {
		for at := range good {
			events := slices.Clone(good)
			events[at] = wrong
			wantNoBytes(t, at, events...)
			for later := at + 1; later < len(events); later++ {
				events[later] = api.Event{Kind: -1}
			}
			wantNoBytes(t, at, events...)
		}
	}
}

func TestBytesCutAtEachLength(t *testing.T) {
	events, b, starts := allTold()
	for n := range len(b) + 1 {
		whole := 0
		for whole < len(events) && starts[whole+1] <= n {
			whole++
		}
		if starts[whole] == n {
			wantEvents(t, b[:n], events[:whole]...)
		} else {
			wantNoEvents(t, b[:n], api.ErrForm, starts[whole])
		}
	}
	for _, x := range told {
		for n := 1; n < len(x.bytes); n++ {
			wantNoEvents(t, x.bytes[:n], api.ErrForm, 0)
		}
	}
}

func TestBytesThatAreNoKind(t *testing.T) {
	_, b, starts := allTold()
	for kind := range 256 {
		if 1 <= kind && kind <= 8 {
			continue
		}
		k := byte(kind)
		wantNoEvents(t, []byte{k}, api.ErrKind, 0)
		wantNoEvents(t, glue(k, b), api.ErrKind, 0)
		for _, start := range starts {
			alone := slices.Concat(b[:start], []byte{k})
			wantNoEvents(t, alone, api.ErrKind, start)
			wantNoEvents(t, slices.Concat(alone, b[start:]), api.ErrKind, start)
		}
	}
}

func TestWhateverComesFirst(t *testing.T) {
	accepted, turned := told[0].bytes, told[7].bytes
	// Of two that are no kind the first one, and it ahead of one that is cut.
	wantNoEvents(t, slices.Concat(accepted, []byte{9}, accepted, []byte{0}), api.ErrKind, 13)
	wantNoEvents(t, slices.Concat(accepted, []byte{9}, accepted[:5]), api.ErrKind, 13)
	wantNoEvents(t, []byte{0, 1}, api.ErrKind, 0)
	// What stands inside of an event is no kind, whatever it says.
	wantNoEvents(t, []byte{1, 0, 0, 0, 1, 9}, api.ErrForm, 0)
	wantNoEvents(t, slices.Concat(turned, []byte{8, 9, 9, 9, 9, 9, 9, 9}), api.ErrForm, 9)
	wantNoEvents(t, slices.Concat(turned, []byte{8, 9, 9, 9, 9, 9, 9, 9, 9, 9}), api.ErrKind, 18)
	// A cut event takes what it lacks from the one behind it.
	wantNoEvents(t, slices.Concat(accepted[:12], turned), api.ErrForm, 13)
	wantNoEvents(t, slices.Concat(turned, accepted[:10], []byte{0, 0}), api.ErrForm, 9)
}
