package outcry_test

import (
	"bytes"
	"math"
	"math/rand/v2"
	"slices"
	"testing"

	"outcry/api"
	"outcry/outcry"
)

// checkDecode holds of any bytes at all.
func checkDecode(t *testing.T, b []byte) {
	t.Helper()
	events, errno, place := outcry.Decode(b)
	if errno == api.OK {
		if place != 0 {
			t.Errorf("P1: Decode(%v): OK with the place %d", b, place)
		}
		wantBytes(t, b, events...)
		return
	}
	if events != nil || errno != api.ErrForm && errno != api.ErrKind || place < 0 || place >= len(b) {
		t.Errorf("P1: Decode(%v) = %+v, %d, %d", b, events, errno, place)
		return
	}
	// What stands ahead of the place is whole, and what begins there has that fault.
	if _, errno, _ := outcry.Decode(b[:place]); errno != api.OK {
		t.Errorf("P9: Decode(%v): the bytes ahead of the place %d give %d", b, place, errno)
	}
	isKind := 1 <= b[place] && b[place] <= 8
	if isKind != (errno == api.ErrForm) {
		t.Errorf("P9: Decode(%v): %d at %d", b, errno, place)
	}
}

// checkEncode holds of any events at all.
func checkEncode(t *testing.T, events []api.Event) {
	t.Helper()
	b, errno, place := outcry.Encode(events...)
	if errno == api.OK {
		if place != 0 {
			t.Errorf("P1: Encode(%+v): OK with the place %d", events, place)
		}
		wantEvents(t, b, events...)
		return
	}
	if b != nil || errno != api.ErrKind || place < 0 || place >= len(events) {
		t.Errorf("P1: Encode(%+v) = %v, %d, %d", events, b, errno, place)
		return
	}
	if _, errno, _ := outcry.Encode(events[:place]...); errno != api.OK {
		t.Errorf("P9: Encode(%+v): the events ahead of the place %d give %d", events, place, errno)
	}
	if _, errno, _ := outcry.Encode(events[place]); errno != api.ErrKind {
		t.Errorf("P9: Encode(%+v): the event at the place %d gives %d", events, place, errno)
	}
}

func TestAnyBytes(t *testing.T) {
	dice := rand.New(rand.NewPCG(1, 2))
	for range 20000 {
		b := make([]byte, dice.IntN(64))
		for i := range b {
			// Mostly low bytes, so that kinds are often met.
			b[i] = byte(dice.IntN([]int{10, 256}[dice.IntN(2)]))
		}
		checkDecode(t, b)
	}
	for range 20000 {
		var b []byte
		for range dice.IntN(6) {
			b = append(b, told[dice.IntN(len(told))].bytes...)
		}
		if len(b) > 0 && dice.IntN(2) == 0 {
			b[dice.IntN(len(b))] = byte(dice.IntN(256))
			b = b[:dice.IntN(len(b)+1)]
		}
		checkDecode(t, b)
	}
	for first := range 256 {
		for second := range 256 {
			checkDecode(t, []byte{byte(first), byte(second)})
		}
	}
}

func TestAnyEvents(t *testing.T) {
	dice := rand.New(rand.NewPCG(3, 4))
	some := []int{0, 0, 0, 0, 0, 0, 0, 0, 1, 2, 8, 9, top, top + 1, -1, math.MinInt, math.MaxInt}
	pick := func() int { return some[dice.IntN(len(some))] }
	for range 50000 {
		events := make([]api.Event, dice.IntN(5))
		for i := range events {
			events[i] = told[dice.IntN(len(told))].event
			if dice.IntN(3) == 0 {
				parts[dice.IntN(len(parts))].set(&events[i], pick())
			}
			if dice.IntN(20) == 0 {
				events[i] = api.Event{Kind: pick(), Seq: pick(), Id: pick(), Reason: api.Reason(pick()), Buyer: pick(), Seller: pick(), Qty: pick(), Price: pick(), Surplus: int64(pick()), Phase: pick()}
			}
		}
		checkEncode(t, events)
	}
}

func FuzzDecode(f *testing.F) {
	_, b, _ := allTold()
	f.Add(b)
	f.Fuzz(func(t *testing.T, b []byte) { checkDecode(t, b) })
}

// eventInputs and byteInputs are good and wrong, and one of none.
func eventInputs() [][]api.Event {
	good, _, _ := allTold()
	return [][]api.Event{good, append(slices.Clone(good), api.Event{Kind: 9}), {{Kind: 1, Seq: -1}}, {}}
}

func byteInputs() [][]byte {
	_, good, _ := allTold()
	return [][]byte{good, append(slices.Clone(good), 9), good[:len(good)-1], {}}
}

// Room behind what is handed in, filled: a call that appends to it would write there.
func TestNothingIsWrittenIntoWhatIsHandedIn(t *testing.T) {
	for _, in := range eventInputs() {
		room := append(slices.Clone(in), api.Event{Kind: 77}, api.Event{Seq: 77}, api.Event{Phase: 77})
		before := slices.Clone(room)
		outcry.Encode(room[:len(in)]...)
		if !slices.Equal(room, before) {
			t.Errorf("P2: Encode(%+v...) wrote into what it was handed, or behind it", in)
		}
	}
	for _, in := range byteInputs() {
		room := append(slices.Clone(in), bytes.Repeat([]byte{77}, 64)...)
		before := slices.Clone(room)
		outcry.Decode(room[:len(in)])
		if !bytes.Equal(room, before) {
			t.Errorf("P2: Decode(%v) wrote into what it was handed, or behind it", in)
		}
	}
}

// What stands behind what is handed in is not read either.
func TestRoomBehindIsNotRead(t *testing.T) {
	events, b, starts := allTold()
	for whole, start := range starts {
		wantEvents(t, b[:start], events[:whole]...)
		wantBytes(t, b[:start], events[:whole]...)
	}
}

func TestEncodeGivesNewMemory(t *testing.T) {
	good, want, _ := allTold()
	events := slices.Clone(good)
	first, _, _ := outcry.Encode(events...)
	second, _, _ := outcry.Encode(events...)
	for i := range events {
		events[i] = api.Event{Kind: 77}
	}
	spoil(first)
	if !bytes.Equal(second, want) {
		t.Errorf("P2: the bytes of Encode changed with its argument, or with another answer")
	}
	for _, e := range events {
		if e != (api.Event{Kind: 77}) {
			t.Errorf("P2: Encode's answer shares memory with its argument")
		}
	}
	third, _, _ := outcry.Encode(good...)
	if !bytes.Equal(third, want) {
		t.Errorf("P2: Encode answers otherwise once an earlier answer was written over")
	}
	wantNoneShared(t, "Encode", first, second, third)
}

func TestDecodeGivesNewMemory(t *testing.T) {
	want, good, _ := allTold()
	b := slices.Clone(good)
	first, _, _ := outcry.Decode(b)
	second, _, _ := outcry.Decode(b)
	for i := range b {
		b[i] = 77
	}
	spoil(first)
	if !slices.Equal(second, want) {
		t.Errorf("P2: the events of Decode changed with its argument, or with another answer")
	}
	if !bytes.Equal(b, bytes.Repeat([]byte{77}, len(b))) {
		t.Errorf("P2: Decode's answer shares memory with its argument")
	}
	third, _, _ := outcry.Decode(good)
	if !slices.Equal(third, want) {
		t.Errorf("P2: Decode answers otherwise once an earlier answer was written over")
	}
	wantNoneShared(t, "Decode", first, second, third)
}

func TestAnswersOfNothingAreNewMemory(t *testing.T) {
	_, b, _ := allTold()
	noBytes, _, _ := outcry.Encode([]api.Event{}...)
	noEvents, _, _ := outcry.Decode(b[:0])
	otherBytes, _, _ := outcry.Encode()
	otherEvents, _, _ := outcry.Decode(nil)
	wantNoneShared(t, "Encode", noBytes, otherBytes, b)
	wantNoneShared(t, "Decode", noEvents, otherEvents)
}

// spoil writes over a list, and over its spare room.
func spoil[T any](list []T) {
	clear(list[:cap(list)])
}

// wantNoneShared looks at the lists with their spare room.
func wantNoneShared[T any](t *testing.T, call string, lists ...[]T) {
	t.Helper()
	for i, one := range lists {
		for k, other := range lists {
			if i != k && shares(one[:cap(one)], other[:cap(other)]) {
				t.Errorf("P2: two lists of %s share memory", call)
			}
		}
	}
}

func shares[T any](one, other []T) bool {
	for i := range one {
		for k := range other {
			if &one[i] == &other[k] {
				return true
			}
		}
	}
	return false
}
