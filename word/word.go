// Package word is layer 1: see shared/doc/01-word.md.
package word

import "slices"

const (
	numberBytes = 8
	countBytes  = 2
	longestText = 1<<(8*countBytes) - 1 // what a text's count can tell
)

// Int puts a number.
func Int(b []byte, n int) []byte {
	return slices.Concat(b, highestFirst(uint64(n), numberBytes))
}

// Text puts a text; of one that is too long for its count, its beginning.
func Text(b []byte, s string) []byte {
	if len(s) > longestText {
		s = s[:longestText]
	}
	return slices.Concat(b, highestFirst(uint64(len(s)), countBytes), []byte(s))
}

// Bool puts a truth.
func Bool(b []byte, yes bool) []byte {
	if yes {
		return slices.Concat(b, []byte{1})
	}
	return slices.Concat(b, []byte{0})
}

// highestFirst answers the lowest size bytes of n.
func highestFirst(n uint64, size int) []byte {
	b := make([]byte, size)
	for i := range b {
		b[size-1-i] = byte(n)
		n >>= 8
	}
	return b
}

// number is what highestFirst put.
func number(b []byte) uint64 {
	var n uint64
	for _, x := range b {
		n = n<<8 | uint64(x)
	}
	return n
}

// Reader goes over bytes.
type Reader struct {
	left   []byte
	failed bool
}

// Read begins. The reader has bytes of its own: the caller may change those handed in.
func Read(b []byte) *Reader {
	return &Reader{left: slices.Clone(b)}
}

// Int takes a number.
func (r *Reader) Int(least, most int) int {
	b, there := r.take(numberBytes)
	if !there {
		return 0
	}
	n := int(number(b))
	if n < least || n > most {
		r.fail()
		return 0
	}
	return n
}

// Text takes a text.
func (r *Reader) Text(most int) string {
	b, there := r.take(countBytes)
	if !there {
		return ""
	}
	n := int(number(b))
	if n > most {
		r.fail()
		return ""
	}
	s, _ := r.take(n)
	return string(s)
}

// Bool takes a truth.
func (r *Reader) Bool() bool {
	b, there := r.take(1)
	if !there {
		return false
	}
	if b[0] > 1 {
		r.fail()
		return false
	}
	return b[0] == 1
}

// Fail asks whether it did.
func (r *Reader) Fail() bool {
	return r == nil || r.failed
}

// Left is how many bytes are left.
func (r *Reader) Left() int {
	if r.Fail() {
		return 0
	}
	return len(r.left)
}

// Done asks whether nothing is left.
func (r *Reader) Done() bool {
	return !r.Fail() && len(r.left) == 0
}

// take answers the next n bytes; false, and a failed reader: they aren't all there.
func (r *Reader) take(n int) ([]byte, bool) {
	if r.Fail() {
		return nil, false
	}
	if n > len(r.left) {
		r.fail()
		return nil, false
	}
	b := r.left[:n]
	r.left = r.left[n:]
	return b, true
}

// fail drops what is left, so that nothing behind a fault can be told.
func (r *Reader) fail() {
	r.failed = true
	r.left = nil
}
