// Package octet is layer 1: numbers in bytes, the highest byte first. See shared/doc/01-octet.md.
package octet

import "crossbar/api"

// maxSize is how many bytes the widest number has.
const maxSize = 8

// Get answers the number whose n bytes stand in b from at on.
func Get(b []byte, at, n int) (uint64, api.Errno) {
	if !isSize(n) || at < 0 {
		return 0, api.ErrArg
	}
	if !has(b, at, n) {
		return 0, api.ErrShort
	}
	var v uint64
	for _, x := range b[at : at+n] {
		v = v<<8 | uint64(x)
	}
	return v, api.OK
}

// Signed answers the signed number whose n bytes stand in b from at on.
func Signed(b []byte, at, n int) (int64, api.Errno) {
	v, err := Get(b, at, n)
	if err != api.OK {
		return 0, err
	}
	// The number's own sign bit goes to the top, so that the shift back draws it down.
	free := 64 - 8*n
	return int64(v<<free) >> free, api.OK
}

// Put answers the n bytes of v.
func Put(v uint64, n int) ([]byte, api.Errno) {
	if !isSize(n) {
		return nil, api.ErrArg
	}
	if v>>(8*n) != 0 {
		return nil, api.ErrField
	}
	return digits(v, n), api.OK
}

// PutSigned answers the n bytes of the signed number v.
func PutSigned(v int64, n int) ([]byte, api.Errno) {
	if !isSize(n) {
		return nil, api.ErrArg
	}
	// What stands above the lower 8n-1 bits must be the sign alone.
	if high := v >> (8*n - 1); high != 0 && high != -1 {
		return nil, api.ErrField
	}
	return digits(uint64(v), n), api.OK
}

// Set answers b with v's n bytes in the place of those from at on.
func Set(b []byte, at, n int, v uint64) ([]byte, api.Errno) {
	put, err := Put(v, n)
	if err != api.OK {
		return nil, err
	}
	if at < 0 {
		return nil, api.ErrArg
	}
	if !has(b, at, n) {
		return nil, api.ErrShort
	}
	return Join(b[:at], put, b[at+n:]), api.OK
}

// Part answers the n bytes of b from at on.
func Part(b []byte, at, n int) ([]byte, api.Errno) {
	if n < 0 || at < 0 {
		return nil, api.ErrArg
	}
	if !has(b, at, n) {
		return nil, api.ErrShort
	}
	return Join(b[at : at+n]), api.OK
}

// Join answers all bytes of the lists, one behind the other.
func Join(l ...[]byte) []byte {
	size := 0
	for _, b := range l {
		size += len(b)
	}
	all := make([]byte, 0, size)
	for _, b := range l {
		all = append(all, b...)
	}
	return all
}

// isSize tells whether a number may have n bytes.
func isSize(n int) bool {
	return n >= 1 && n <= maxSize
}

// has tells whether b has n bytes from at on; neither is below 0.
func has(b []byte, at, n int) bool {
	// Not at+n, which may go round.
	return n <= len(b)-at
}

// digits answers the lower n bytes of v, the highest first.
func digits(v uint64, n int) []byte {
	out := make([]byte, n)
	for i := n - 1; i >= 0; i-- {
		out[i] = byte(v)
		v >>= 8
	}
	return out
}
