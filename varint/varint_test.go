package varint

import (
	"math"
	"strings"
	"testing"
	"unsafe"

	"aqueduct/api"
)

// steps are the least and the greatest number of each count of bytes, written out by hand.
var steps = []struct {
	n     int
	bytes string
}{
	{0, "\x00"},
	{1, "\x01"},
	{127, "\x7f"},
	{128, "\x80\x01"},
	{129, "\x81\x01"},
	{321, "\xc1\x02"},
	{16383, "\xff\x7f"},
	{16384, "\x80\x80\x01"},
	{2097151, "\xff\xff\x7f"},
	{2097152, "\x80\x80\x80\x01"},
	{268435454, "\xfe\xff\xff\x7f"},
	{api.MaxVar, "\xff\xff\xff\x7f"},
}

// strangeInts are ints that are no place of any text here, no width and no number that can be told.
var strangeInts = []int{math.MinInt, math.MinInt + 1, math.MinInt32, -5, -4, -2, -1, math.MaxInt - 4, math.MaxInt - 1, math.MaxInt}

// Of P1.1.

func TestSizeAndPutAtTheSteps(t *testing.T) {
	for _, x := range steps {
		if got := Size(x.n); got != len(x.bytes) {
			t.Errorf("Size(%d) = %d, want %d", x.n, got, len(x.bytes))
		}
		if got, code := Put(x.n); got != x.bytes || code != api.OK {
			t.Errorf("Put(%d) = %x, %d, want %x, OK", x.n, got, code, x.bytes)
		}
	}
}

func TestSizeAndPutRefuseWhatIsOutside(t *testing.T) {
	for _, n := range append([]int{api.MaxVar + 1, api.MaxVar + 2, 1 << 30, 1 << 32, 1<<32 + 1, 1<<35 + 5}, strangeInts...) {
		if got := Size(n); got != 0 {
			t.Errorf("Size(%d) = %d, want 0", n, got)
		}
		if got, code := Put(n); got != "" || code != api.Malformed {
			t.Errorf("Put(%d) = %x, %d, want nothing, Malformed", n, got, code)
		}
	}
}

// sampleNumbers calls f for all small numbers, and for some of all sizes; the stride is odd, so that all low bits are met.
func sampleNumbers(f func(n int)) {
	for n := range 1 << 17 {
		f(n)
	}
	for n := 1 << 17; n <= api.MaxVar; n += 1021 {
		f(n)
	}
	for n := api.MaxVar - 300; n <= api.MaxVar; n++ {
		f(n)
	}
}

// plainBytes tells the bytes of a number as MQTT's section 1.5.5 does.
func plainBytes(n int) string {
	var out []byte
	for {
		b := byte(n % 128)
		n /= 128
		if n == 0 {
			return string(append(out, b))
		}
		out = append(out, b+128)
	}
}

func TestNumbersGoAndComeBack(t *testing.T) {
	sampleNumbers(func(n int) {
		s, code := Put(n)
		if s != plainBytes(n) || code != api.OK || Size(n) != len(s) {
			t.Fatalf("Put(%d) = %x, %d; Size %d", n, s, code, Size(n))
		}
		if m, to, code := Get(s, 0); m != n || to != len(s) || code != api.OK {
			t.Fatalf("Get(%x, 0) = %d, %d, %d", s, m, to, code)
		}
	})
}

// Of P1.2.

func checkGet(t *testing.T, s string, at, n, to int, code api.Code) {
	t.Helper()
	gotN, gotTo, gotCode := Get(s, at)
	if gotN != n || gotTo != to || gotCode != code {
		t.Errorf("Get(%x, %d) = %d, %d, %d, want %d, %d, %d", s, at, gotN, gotTo, gotCode, n, to, code)
	}
}

func TestGetAtPlaces(t *testing.T) {
	for _, x := range steps {
		checkGet(t, x.bytes, 0, x.n, len(x.bytes), api.OK)
		checkGet(t, "\xff\xff\xff\xff\xff"+x.bytes, 5, x.n, 5+len(x.bytes), api.OK)
		checkGet(t, "\x00\x00"+x.bytes+"\xff\xff\xff\xff\xff", 2, x.n, 2+len(x.bytes), api.OK)
		checkGet(t, x.bytes, len(x.bytes), 0, 0, api.Nothing)
		checkGet(t, x.bytes, len(x.bytes)-1, int(x.bytes[len(x.bytes)-1]), len(x.bytes), api.OK)
	}
}

func TestGetOutsideTheText(t *testing.T) {
	for _, s := range []string{"", "\x00", "\x80", "\x80\x80\x80\x80", "\x00\x00\x00\x00\x00\x00"} {
		for _, at := range append([]int{len(s) + 1, len(s) + 2}, strangeInts...) {
			checkGet(t, s, at, 0, 0, api.Unspecified)
		}
	}
}

func TestGetEndsTooEarly(t *testing.T) {
	for _, s := range []string{"", "\x80", "\xff", "\x80\x80", "\xff\x81", "\x80\x80\x80", "\xff\xff\xff"} {
		checkGet(t, s, 0, 0, 0, api.Nothing)
		checkGet(t, "\x01\x02\x03\x04"+s, 4, 0, 0, api.Nothing)
	}
}

func TestGetMalformed(t *testing.T) {
	for _, s := range []string{
		"\x80\x00", "\x81\x00", "\xff\x00", "\x80\x80\x00", "\xff\xff\x00", "\x80\x80\x80\x00", "\xff\xff\xff\x00",
		"\x80\x80\x80\x80", "\xff\xff\xff\xff", "\x80\x80\x80\x80\x01", "\xff\xff\xff\xff\x7f", "\x80\x80\x80\x80\x80", "\x80\x80\x80\x81\x00",
	} {
		checkGet(t, s, 0, 0, 0, api.Malformed)
		checkGet(t, "\x01\x02\x03\x04"+s, 4, 0, 0, api.Malformed)
	}
}

// plainGet tells what P1.2 asks for at the beginning of s: a number is well told just if its own bytes stand there.
func plainGet(s string) (int, int, api.Code) {
	s = s[:min(len(s), 4)]
	n, unit := 0, 1
	for i := range len(s) {
		n += int(s[i]) % 128 * unit
		unit *= 128
		if s[i] < 128 {
			if plainBytes(n) != s[:i+1] {
				return 0, 0, api.Malformed
			}
			return n, i + 1, api.OK
		}
	}
	if len(s) == 4 {
		return 0, 0, api.Malformed
	}
	return 0, 0, api.Nothing
}

func TestGetOfAllShortTexts(t *testing.T) {
	edges := "\x00\x01\x02\x40\x7e\x7f\x80\x81\x82\xc0\xfe\xff"
	var try func(s string, most int)
	try = func(s string, most int) {
		n, to, code := plainGet(s)
		checkGet(t, s, 0, n, to, code)
		if len(s) == most {
			return
		}
		for i := range len(edges) {
			try(s+edges[i:i+1], most)
		}
	}
	try("", 5)
	for a := range 256 {
		for b := range 256 {
			s := string([]byte{byte(a), byte(b)})
			n, to, code := plainGet(s)
			checkGet(t, s, 0, n, to, code)
		}
	}
}

// Of P1.3.

func checkFixed(t *testing.T, width, n int, want string, code api.Code) {
	t.Helper()
	if got, gotCode := Fixed(width, n); got != want || gotCode != code {
		t.Errorf("Fixed(%d, %d) = %x, %d, want %x, %d", width, n, got, gotCode, want, code)
	}
}

func checkGetFixed(t *testing.T, s string, at, width, n, to int, code api.Code) {
	t.Helper()
	gotN, gotTo, gotCode := GetFixed(s, at, width)
	if gotN != n || gotTo != to || gotCode != code {
		t.Errorf("GetFixed(%x, %d, %d) = %d, %d, %d, want %d, %d, %d", s, at, width, gotN, gotTo, gotCode, n, to, code)
	}
}

func TestFixedNumbers(t *testing.T) {
	for _, x := range []struct {
		width, n int
		bytes    string
	}{
		{1, 0, "\x00"},
		{1, 1, "\x01"},
		{1, 127, "\x7f"},
		{1, 128, "\x80"},
		{1, 255, "\xff"},
		{2, 0, "\x00\x00"},
		{2, 255, "\x00\xff"},
		{2, 256, "\x01\x00"},
		{2, 258, "\x01\x02"},
		{2, 65535, "\xff\xff"},
		{4, 0, "\x00\x00\x00\x00"},
		{4, 65536, "\x00\x01\x00\x00"},
		{4, 0x01020304, "\x01\x02\x03\x04"},
		{4, 1<<31 - 1, "\x7f\xff\xff\xff"},
		{4, 1 << 31, "\x80\x00\x00\x00"},
		{4, 1<<32 - 1, "\xff\xff\xff\xff"},
	} {
		checkFixed(t, x.width, x.n, x.bytes, api.OK)
		checkGetFixed(t, x.bytes, 0, x.width, x.n, x.width, api.OK)
		checkGetFixed(t, "\x55\xaa\x55"+x.bytes, 3, x.width, x.n, 3+x.width, api.OK)
		checkGetFixed(t, "\x55"+x.bytes+"\x99\x99", 1, x.width, x.n, 1+x.width, api.OK)
	}
}

func TestFixedOfAllOneAndTwoBytes(t *testing.T) {
	for n := range 1 << 16 {
		s := string([]byte{byte(n / 256), byte(n % 256)})
		checkFixed(t, 2, n, s, api.OK)
		checkGetFixed(t, s, 0, 2, n, 2, api.OK)
		if n < 256 {
			checkFixed(t, 1, n, s[1:], api.OK)
			checkGetFixed(t, s, 1, 1, n, 2, api.OK)
		}
	}
}

func TestFixedNumbersOutside(t *testing.T) {
	for width, first := range map[int]int{1: 1 << 8, 2: 1 << 16, 4: 1 << 32} {
		for _, n := range append([]int{first, first + 1, first * 2, first * 256}, strangeInts...) {
			checkFixed(t, width, n, "", api.Malformed)
		}
	}
}

func TestFixedOtherWidths(t *testing.T) {
	for _, width := range append([]int{0, 3, 5, 6, 7, 8, 16, 64, 1 << 32, 1<<32 + 1}, strangeInts...) {
		// A wrong width goes ahead of a wrong number, and of bytes that are missing.
		for _, n := range []int{0, 1, 255, -1, math.MinInt, math.MaxInt} {
			checkFixed(t, width, n, "", api.Unspecified)
		}
		for _, s := range []string{"", "\x01", "\x01\x02\x03\x04\x05\x06\x07\x08\x09"} {
			for _, at := range []int{0, len(s), len(s) + 1, -1, math.MinInt, math.MaxInt} {
				checkGetFixed(t, s, at, width, 0, 0, api.Unspecified)
			}
		}
	}
}

func TestGetFixedOutsideTheText(t *testing.T) {
	for _, s := range []string{"", "\x01", "\x01\x02\x03\x04\x05"} {
		for _, width := range []int{1, 2, 4} {
			for _, at := range append([]int{len(s) + 1, len(s) + 2}, strangeInts...) {
				checkGetFixed(t, s, at, width, 0, 0, api.Unspecified)
			}
		}
	}
}

func TestGetFixedEndsTooEarly(t *testing.T) {
	s := "\x01\x02\x03\x04\x05"
	for _, width := range []int{1, 2, 4} {
		for left := range width {
			checkGetFixed(t, s, len(s)-left, width, 0, 0, api.Nothing)
			checkGetFixed(t, s[:left], 0, width, 0, 0, api.Nothing)
		}
	}
	checkGetFixed(t, s, 4, 1, 5, 5, api.OK)
	checkGetFixed(t, s, 3, 2, 0x0405, 5, api.OK)
	checkGetFixed(t, s, 1, 4, 0x02030405, 5, api.OK)
}

// Of P1.4.

func checkGetData(t *testing.T, s string, at int, want string, to int, code api.Code) {
	t.Helper()
	got, gotTo, gotCode := GetData(s, at)
	if got != want || gotTo != to || gotCode != code {
		t.Errorf("GetData of %d bytes at %d = %d bytes, %d, %d, want %d bytes, %d, %d", len(s), at, len(got), gotTo, gotCode, len(want), to, code)
	}
}

func TestDataGoesAndComesBack(t *testing.T) {
	for _, n := range []int{0, 1, 2, 3, 127, 128, 255, 256, 257, 65534, api.MaxText} {
		body := strings.Repeat("\x00a\xff", n/3+1)[:n]
		want := string([]byte{byte(n / 256), byte(n % 256)}) + body
		if s, code := Data(body); s != want || code != api.OK {
			t.Errorf("Data of %d bytes: %d bytes, %d", n, len(s), code)
		}
		checkGetData(t, want, 0, body, n+2, api.OK)
		checkGetData(t, "\xff\xff\xff"+want, 3, body, n+5, api.OK)
		checkGetData(t, "\x00"+want+"\x00\x01z", 1, body, n+3, api.OK)
	}
}

func TestDataTooLarge(t *testing.T) {
	for _, n := range []int{api.MaxText + 1, api.MaxText + 2, 2*api.MaxText + 2, 1 << 20} {
		if s, code := Data(strings.Repeat("a", n)); s != "" || code != api.TooLarge {
			t.Errorf("Data of %d bytes: %d bytes, %d", n, len(s), code)
		}
	}
}

func TestGetDataOutsideTheText(t *testing.T) {
	for _, s := range []string{"", "\x00", "\x00\x00", "\x00\x01a", "\x00\x02a"} {
		for _, at := range append([]int{len(s) + 1, len(s) + 2}, strangeInts...) {
			checkGetData(t, s, at, "", 0, api.Unspecified)
		}
	}
}

func TestGetDataEndsTooEarly(t *testing.T) {
	for _, s := range []string{"", "\x00", "\x00\x01", "\x00\x02a", "\x01\x00" + strings.Repeat("a", 255), "\xff\xff" + strings.Repeat("a", api.MaxText-1)} {
		checkGetData(t, s, 0, "", 0, api.Nothing)
		checkGetData(t, "\x00\x00\x00"+s, 3, "", 0, api.Nothing)
	}
	checkGetData(t, "\x00\x00", 2, "", 0, api.Nothing)
	checkGetData(t, "\x00\x00", 1, "", 0, api.Nothing)
}

func TestGetDataIsNewMemory(t *testing.T) {
	s := "\x00\x03abc"
	got, _, _ := GetData(s, 0)
	if unsafe.StringData(got) == unsafe.StringData(s[2:]) {
		t.Error("the answer shares the argument's memory")
	}
}

// Of P1: no call panics, and beside another code than OK stands nothing.

func TestNoCallPanicsAtStrangeInts(t *testing.T) {
	texts := []string{"", "\x00", "\x80\x80\x80\x80", "\x00\x02ab"}
	refused := func(call string, a, b int, code api.Code) {
		if code == api.OK {
			t.Errorf("%s(%d, %d) is OK", call, a, b)
		}
	}
	for _, a := range strangeInts {
		Size(a)
		_, code := Put(a)
		refused("Put", a, 0, code)
		for _, s := range texts {
			_, _, code = Get(s, a)
			refused("Get", a, 0, code)
			_, _, code = GetData(s, a)
			refused("GetData", a, 0, code)
		}
		for _, b := range strangeInts {
			_, code = Fixed(a, b)
			refused("Fixed", a, b, code)
			for _, s := range texts {
				_, _, code = GetFixed(s, a, b)
				refused("GetFixed", a, b, code)
			}
		}
	}
}
