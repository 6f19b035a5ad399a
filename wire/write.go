package wire

import "outcry/api"

// Fits tells whether an event can be told in bytes, and nothing of it is lost there.
func Fits(e api.Event) bool {
	if !isKind(e.Kind) || !isNumber(int64(e.Seq)) {
		return false
	}
	left := values(e)
	for _, f := range layouts[e.Kind] {
		if f != surplus && !isNumber(left[f]) {
			return false
		}
		left[f] = 0
	}
	// What is not 0 by now is a field that is not of this kind.
	return left == [fields]int64{}
}

// Append puts the bytes of an event that fits behind b.
func Append(b []byte, e api.Event) []byte {
	b = appendBytes(b, int64(e.Kind), byteWidth)
	b = appendBytes(b, int64(e.Seq), numberWidth)
	v := values(e)
	for _, f := range layouts[e.Kind] {
		b = appendBytes(b, v[f], width(f))
	}
	return b
}

// appendBytes puts the lowest n bytes of v behind b, the highest of them first.
func appendBytes(b []byte, v int64, n int) []byte {
	for i := n - 1; i >= 0; i-- {
		b = append(b, byte(v>>(8*i)))
	}
	return b
}
