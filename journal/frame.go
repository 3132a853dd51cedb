package journal

import (
	"strings"

	"aqueduct/api"
	"aqueduct/varint"
)

const (
	lengthBytes = 4 // of a frame
	sumBytes    = 2

	sumBegin   = 0xffff
	polynomial = 0x1021
	highestBit = 0x8000
	bitsOfByte = 8
)

// Sum tells the check sum of a text: CRC-16, the highest bit first, begun with ffff.
func Sum(s string) int {
	sum := uint16(sumBegin)
	for i := range len(s) {
		sum ^= uint16(s[i]) << bitsOfByte
		for range bitsOfByte {
			falls := sum&highestBit != 0
			sum <<= 1
			if falls {
				sum ^= polynomial
			}
		}
	}
	return int(sum)
}

// Frame tells the frame of a body: its length, its check sum, and itself.
func Frame(body string) (string, api.Code) {
	switch {
	case body == "":
		return "", api.Malformed
	case len(body) > api.MaxRecord:
		return "", api.TooLarge
	}
	// Neither is ever refused: MaxRecord fits in four bytes, each check sum in two.
	length, _ := varint.Fixed(lengthBytes, len(body))
	sum, _ := varint.Fixed(sumBytes, Sum(body))
	return length + sum + body, api.OK
}

// Unframe tells the body of the frame at a place of s, and the place behind it.
func Unframe(s string, at int) (string, int, api.Code) {
	length, sumAt, code := varint.GetFixed(s, at, lengthBytes)
	if code != api.OK {
		return "", 0, code
	}
	// Ahead of all that may be missing: no byte to come makes a frame of such a length.
	if length < 1 || length > api.MaxRecord {
		return "", 0, api.Malformed
	}
	sum, from, code := varint.GetFixed(s, sumAt, sumBytes)
	if code != api.OK {
		return "", 0, code
	}
	if len(s)-from < length {
		return "", 0, api.Nothing
	}
	to := from + length
	body := s[from:to]
	if Sum(body) != sum {
		return "", 0, api.Malformed
	}
	// An answer shares no memory with s, so that what keeps a record doesn't keep the file.
	return strings.Clone(body), to, api.OK
}
