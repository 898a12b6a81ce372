// Package num is layer 1: see shared/doc/01-num.md.
package num

import (
	"interchange/api"
)

// widths are the numbers of bytes that a number may have.
var widths = [...]int{1, 2, 4, 8}

// mostBits is how many bits TakeBits takes at most.
const mostBits = 64

// Put are a number's bytes.
func Put(n int, v uint64) (string, api.Errno) {
	switch {
	case !isWidth(n):
		return "", api.ErrArg
	case v>>(8*n) != 0: // of 8 bytes the shift leaves 0, so nothing is too great
		return "", api.ErrBig
	}
	b := make([]byte, n)
	for i := range n {
		b[n-1-i] = byte(v >> (8 * i))
	}
	return string(b), api.OK
}

// Take takes a number.
func Take(s string, n int) (uint64, string, api.Errno) {
	switch {
	case !isWidth(n):
		return 0, "", api.ErrArg
	case len(s) < n:
		return 0, "", api.ErrMore
	}
	var v uint64
	for i := range n {
		v = v<<8 | uint64(s[i])
	}
	return v, s[n:], api.OK
}

// Bits are bits' bytes.
func Bits(l []bool) string {
	b := make([]byte, bytesOf(len(l)))
	set := func(i int) { b[i/8] |= 1 << (i % 8) }
	for i := range len(l) {
		if l[i] {
			set(i)
		}
	}
	return string(b)
}

// TakeBits takes bits.
func TakeBits(s string, n int) ([]bool, string, api.Errno) {
	if e := bitsFault(s, n); e != api.OK {
		return nil, "", e
	}
	l := make([]bool, n)
	for i := range n {
		l[i] = s[i/8]>>(i%8)&1 == 1
	}
	return l, s[bytesOf(n):], api.OK
}

// Skip takes bytes as they are.
func Skip(s string, n uint64) (string, string, api.Errno) {
	if n > uint64(len(s)) { // as uint64: n may be more than an int holds
		return "", "", api.ErrMore
	}
	return s[:n], s[n:], api.OK
}

func isWidth(n int) bool {
	for _, w := range widths {
		if n == w {
			return true
		}
	}
	return false
}

// bytesOf is how many bytes n bits need.
func bytesOf(n int) int { return (n + 7) / 8 }

// bitsFault is why n bits can't be taken of s. The order of the cases is that of the promise: a later one relies on what the earlier ones let through.
func bitsFault(s string, n int) api.Errno {
	switch {
	case n < 0:
		fallthrough
	case n > mostBits:
		return api.ErrArg
	case len(s) < bytesOf(n):
		return api.ErrMore
	case n%8 != 0 && s[n/8]>>(n%8) != 0:
		return api.ErrForm
	}
	return api.OK
}
