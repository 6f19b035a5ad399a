package wire

import (
	"testing"

	"outcry/api"
)

// gaveUp reads all of b, and tells what the reader panicked with.
func gaveUp(b []byte) (with any) {
	defer func() { with = recover() }()
	for r := NewReader(b); r.More(); {
		r.Event()
	}
	return nil
}

func TestTheReaderGivesUpByPanic(t *testing.T) {
	turned := []byte{8, 0, 0, 0, 1, 0, 0, 0, 2}
	for _, x := range []struct {
		behind []byte
		want   any
	}{
		{nil, nil},
		{turned, nil},
		{turned[:8], Fault{api.ErrForm, 9}},
		{turned[:1], Fault{api.ErrForm, 9}},
		{[]byte{0}, Fault{api.ErrKind, 9}},
		{append([]byte{9}, turned...), Fault{api.ErrKind, 9}},
	} {
		b := append(append([]byte(nil), turned...), x.behind...)
		if with := gaveUp(b); with != x.want {
			t.Errorf("reading %v panicked with %v, want %v", b, with, x.want)
		}
	}
}

// Each kind has a layout, and what is no kind has none.
func TestLayoutsAreOfKinds(t *testing.T) {
	for kind := -1; kind <= len(layouts); kind++ {
		has := 0 <= kind && kind < len(layouts) && len(layouts[kind]) > 0
		if has != isKind(kind) {
			t.Errorf("kind %d: has a layout: %v, is a kind: %v", kind, has, isKind(kind))
		}
	}
}
