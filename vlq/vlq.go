// Package vlq is layer 1: numbers of seven bits a byte, the highest first. See shared/doc/01-vlq.md.
package vlq

import "colloquy/api"

const (
	base     = 128 // of the digits; also what is added to each of them but the last one
	maxBytes = 8   // that a number below api.MaxInt has
)

// Put is a number as bytes.
func Put(n int) ([]byte, api.Errno) {
	if !allowed(n) {
		return nil, api.ErrArg
	}
	return appendDigits(nil, n), api.OK
}

// Get is the number that bytes begin with, and how many bytes it is.
func Get(b []byte) (int, int, api.Errno) {
	n, size := 0, 0
digits:
	for {
		if size == len(b) {
			return 0, 0, api.ErrMore
		}
		digit := int(b[size])
		size++
		switch {
		case digit < base:
			n = n*base + digit
			break digits
		case size == 1 && digit == base, size == maxBytes:
			// A nought ahead would be a second form of a shorter number; a ninth digit would be too great a one.
			return 0, 0, api.ErrForm
		}
		n = n*base + digit - base
	}
	return n, size, api.OK
}

// Size is how many bytes a number has, and 0 of one that may not be.
func Size(n int) int {
	if !allowed(n) {
		return 0
	}
	size := 1
	for ; n >= base; n /= base {
		size++
	}
	return size
}

// PutAll are the bytes of all numbers, one behind the other.
func PutAll(l []int) ([]byte, api.Errno) {
	var out []byte
	for _, n := range l {
		if !allowed(n) {
			return nil, api.ErrArg
		}
		out = appendDigits(out, n)
	}
	return out, api.OK
}

// GetAll are the numbers that bytes are, up to their end.
func GetAll(b []byte) ([]int, api.Errno) {
	var l []int
	for at := 0; at < len(b); {
		n, size, e := Get(b[at:])
		if e != api.OK {
			return nil, e
		}
		l = append(l, n)
		at += size
	}
	return l, api.OK
}

func allowed(n int) bool {
	return n >= 0 && n < api.MaxInt
}

// appendDigits calls itself for the higher digits first, since those stand ahead.
func appendDigits(out []byte, n int) []byte {
	var add func(n, mark int)
	add = func(n, mark int) {
		if n >= base {
			add(n/base, base)
		}
		out = append(out, byte(n%base+mark))
	}
	add(n, 0)
	return out
}
