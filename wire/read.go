package wire

import "outcry/api"

// Fault is what a Reader panics with where it gives up; it panics with nothing else.
type Fault struct {
	Errno api.Errno
	At    int // the number of bytes ahead of what can't be read
}

// Reader reads from bytes: events, one behind the other, or a command.
type Reader struct {
	bytes []byte
	at    int // how many bytes are read
	start int // how many stand ahead of what is being read
}

// NewReader makes a reader that stands ahead of b.
func NewReader(b []byte) *Reader {
	return &Reader{bytes: b}
}

// More tells whether any byte is left.
func (r *Reader) More() bool {
	return r.at < len(r.bytes)
}

// Event reads the next event, or gives up.
func (r *Reader) Event() api.Event {
	r.start = r.at
	// The kind is held against the layouts ahead of all else: without it
	// nobody knows how long the event should be.
	kind := r.choice(api.Turned)
	seq := r.number()
	var v [fields]int64
	for _, f := range layouts[kind] {
		v[f] = int64(r.take(width(f)))
	}
	return event(kind, seq, v)
}

// choice reads a byte that is one of the numbers from 1 to last, or gives up.
func (r *Reader) choice(last int) int {
	n := int(r.take(byteWidth))
	if n < 1 || n > last {
		r.giveUp(api.ErrKind)
	}
	return n
}

func (r *Reader) number() int {
	return int(r.take(numberWidth))
}

// take reads n bytes as one number, the highest byte first.
func (r *Reader) take(n int) uint64 {
	if len(r.bytes)-r.at < n {
		r.giveUp(api.ErrForm)
	}
	var v uint64
	for _, x := range r.bytes[r.at : r.at+n] {
		v = v<<8 | uint64(x)
	}
	r.at += n
	return v
}

func (r *Reader) giveUp(e api.Errno) {
	panic(Fault{Errno: e, At: r.start})
}
