// Package num encodes numbers as bytes of a fixed width, and rounds them.
package num

import "math/bits"

// The greatest numbers that Up and Down round, and round to.
const (
	maxRounded = 1 << 60
	maxStep    = 1 << 30
)

// Fits reports whether a number fits a width.
func Fits(n, width int) bool {
	switch width {
	case 1, 2, 4:
		return n >= 0 && n < 1<<(8*width)
	case 8:
		return n >= 0
	}
	return false
}

// Put returns the bytes followed by the encoding of a number, if that fits.
func Put(b []byte, n, width int) []byte {
	if !Fits(n, width) {
		return append([]byte(nil), b...)
	}
	r := make([]byte, len(b)+width)
	write(r[copy(r, b):], n)
	return r
}

// Get returns the number whose encoding begins at an index.
func Get(b []byte, at, width int) (int, bool) {
	if !Fits(0, width) || !inside(b, at, width) {
		return 0, false
	}
	n := 0
	for i := range width {
		n |= int(b[at+i]) << (8 * i)
	}
	if !Fits(n, width) {
		return 0, false
	}
	return n, true
}

// Set replaces the bytes at an index by the encoding of a number.
func Set(b []byte, at, n, width int) bool {
	if !Fits(n, width) || !inside(b, at, width) {
		return false
	}
	write(b[at:at+width], n)
	return true
}

// Up returns the least multiple that is not less than n.
func Up(n, to int) int {
	if !rounds(n, to) {
		return n
	}
	return (n + to - 1) / to * to
}

// Down returns the greatest multiple that is not greater than n.
func Down(n, to int) int {
	if !rounds(n, to) {
		return n
	}
	return n / to * to
}

// Rotate rotates bits to the left.
func Rotate(x uint32, n int) uint32 {
	if n < 0 {
		n = -(n + 1)
	}
	return bits.RotateLeft32(x, n%32)
}

func write(b []byte, n int) {
	for i := range len(b) {
		b[i] = byte(n >> (8 * i))
	}
}

// inside compares without adding to at, which may be the greatest number.
func inside(b []byte, at, width int) bool {
	return at >= 0 && at <= len(b)-width
}

func rounds(n, to int) bool {
	return n >= 0 && n <= maxRounded && to >= 1 && to <= maxStep
}
