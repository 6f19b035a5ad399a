package wire

import (
	"testing"

	"outcry/api"
)

// readCommand tells the command, or what the reader panicked with.
func readCommand(b []byte) (c Command, with any) {
	defer func() { with = recover() }()
	return NewReader(b).Command(), nil
}

var commands = []struct {
	bytes []byte
	want  Command
}{
	{[]byte{1, 1, 2, 3, 4, 2, 3, 5, 6, 7, 8, 9, 10, 11, 12}, Command{Kind: New, Id: 0x01020304, Side: 2, Type: 3, Qty: 0x05060708, Price: 0x090a0b0c}},
	{[]byte{1, 255, 255, 255, 255, 1, 4, 255, 255, 255, 255, 255, 255, 255, 255}, Command{Kind: New, Id: 4294967295, Side: 1, Type: 4, Qty: 4294967295, Price: 4294967295}},
	{[]byte{1, 0, 0, 0, 0, 1, 1, 0, 0, 0, 0, 0, 0, 0, 0}, Command{Kind: New, Side: 1, Type: 1}},
	{[]byte{2, 1, 2, 3, 4}, Command{Kind: Cancel, Id: 0x01020304}},
	{[]byte{2, 255, 255, 255, 255}, Command{Kind: Cancel, Id: 4294967295}},
	{[]byte{3, 1, 2, 3, 4, 5, 6, 7, 8}, Command{Kind: Reduce, Id: 0x01020304, Qty: 0x05060708}},
	{[]byte{3, 255, 255, 255, 255, 255, 255, 255, 255}, Command{Kind: Reduce, Id: 4294967295, Qty: 4294967295}},
	{[]byte{4, 1, 2, 3, 4}, Command{Kind: Tick, Time: 0x01020304}},
	{[]byte{4, 255, 255, 255, 255}, Command{Kind: Tick, Time: 4294967295}},
}

func TestCommands(t *testing.T) {
	for _, x := range commands {
		if c, with := readCommand(x.bytes); c != x.want || with != nil {
			t.Errorf("reading %v: %+v, panicked with %v, want %+v", x.bytes, c, with, x.want)
		}
	}
}

func TestTheReaderGivesUpAtWhatIsNoCommand(t *testing.T) {
	wantFault := func(b []byte, errno api.Errno) {
		t.Helper()
		if c, with := readCommand(b); with != (Fault{errno, 0}) {
			t.Errorf("reading %v: %+v, panicked with %v, want %v", b, c, with, Fault{errno, 0})
		}
	}
	for _, x := range commands {
		for n := range x.bytes {
			wantFault(x.bytes[:n], api.ErrForm)
		}
		wantFault(append(append([]byte(nil), x.bytes...), 0), api.ErrForm)
	}
	for n := range 256 {
		order := []byte{1, 0, 0, 0, 1, 1, 1, 0, 0, 0, 1, 0, 0, 0, 1}
		if n < 1 || n > 4 {
			wantFault([]byte{byte(n)}, api.ErrKind)
			order[6] = byte(n)
			wantFault(order, api.ErrKind)
		}
		if order[6] = 1; n < 1 || n > 2 {
			order[5] = byte(n)
			wantFault(order, api.ErrKind)
		}
	}
}
