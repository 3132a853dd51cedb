// Package varint is layer 1: numbers and data as MQTT 5.0 has them.
package varint

import (
	"strings"

	"aqueduct/api"
)

const (
	mostBytes = 4    // of a number
	moreBit   = 0x80 // another byte of the number follows
	lowBits   = 0x7f // what a byte tells of the number
)

// Size tells how many bytes a number takes, 0 if it is none that can be told.
func Size(n int) int {
	size := 0
	switch {
	case n < 0 || n > api.MaxVar:
		return 0
	case n >= 1<<21:
		size++
		fallthrough
	case n >= 1<<14:
		size++
		fallthrough
	case n >= 1<<7:
		size++
		fallthrough
	default:
		size++
	}
	return size
}

// Put tells the bytes of a number, the lowest seven bits first.
func Put(n int) (string, api.Code) {
	size := Size(n)
	if size == 0 {
		return "", api.Malformed
	}
	out := make([]byte, size)
	for i := range size {
		out[i] = byte(n>>(7*i)) | moreBit
	}
	out[size-1] &= lowBits
	return string(out), api.OK
}

// Get tells the number at a place of s, and the place behind it.
func Get(s string, at int) (int, int, api.Code) {
	if !within(s, at) {
		return 0, 0, api.Unspecified
	}
	left := len(s) - at
	n := 0
	for i := range min(left, mostBytes) {
		b := int(s[at+i])
		n |= (b & lowBits) << (7 * i)
		if b&moreBit != 0 {
			continue
		}
		if Size(n) != i+1 {
			return 0, 0, api.Malformed
		}
		return n, at + i + 1, api.OK
	}
	if left < mostBytes {
		return 0, 0, api.Nothing
	}
	return 0, 0, api.Malformed
}

// Fixed tells the bytes of a number in width bytes, the highest first.
func Fixed(width int, n int) (string, api.Code) {
	if !isWidth(width) {
		return "", api.Unspecified
	}
	// A shift holds at every size of int, where 256 to the power of 4 would not.
	if n < 0 || n>>(8*width) != 0 {
		return "", api.Malformed
	}
	out := make([]byte, width)
	for i := range width {
		out[width-1-i] = byte(n >> (8 * i))
	}
	return string(out), api.OK
}

// GetFixed tells the number in width bytes at a place of s, and the place behind it.
func GetFixed(s string, at, width int) (int, int, api.Code) {
	if !isWidth(width) || !within(s, at) {
		return 0, 0, api.Unspecified
	}
	if len(s)-at < width {
		return 0, 0, api.Nothing
	}
	n := 0
	for i := range width {
		n = n<<8 | int(s[at+i])
	}
	return n, at + width, api.OK
}

// Data tells the bytes of data: its length in two bytes, and itself.
func Data(s string) (string, api.Code) {
	if len(s) > api.MaxText {
		return "", api.TooLarge
	}
	length, _ := Fixed(2, len(s)) // never refused, for MaxText fits in two bytes
	return length + s, api.OK
}

// GetData tells the data at a place of s, and the place behind it.
func GetData(s string, at int) (string, int, api.Code) {
	length, from, code := GetFixed(s, at, 2)
	if code != api.OK {
		return "", 0, code
	}
	if len(s)-from < length {
		return "", 0, api.Nothing
	}
	to := from + length
	// An answer shares no memory with s, so that what keeps it doesn't keep all of s.
	return strings.Clone(s[from:to]), to, api.OK
}

func within(s string, at int) bool {
	return at >= 0 && at <= len(s)
}

func isWidth(width int) bool {
	return width == 1 || width == 2 || width == 4
}
