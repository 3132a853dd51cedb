package text

import (
	"math"
	"strings"
	"testing"
	"unsafe"

	"aqueduct/api"
)

// row is a row of bytes that the chapter lists: the least and the greatest of each of a character's bytes.
type row struct {
	least, greatest string
}

var rows = []row{
	{"\x01", "\x7f"},
	{"\xc2\x80", "\xdf\xbf"},
	{"\xe0\xa0\x80", "\xe0\xbf\xbf"},
	{"\xe1\x80\x80", "\xec\xbf\xbf"},
	{"\xed\x80\x80", "\xed\x9f\xbf"},
	{"\xee\x80\x80", "\xef\xbf\xbf"},
	{"\xf0\x90\x80\x80", "\xf0\xbf\xbf\xbf"},
	{"\xf1\x80\x80\x80", "\xf3\xbf\xbf\xbf"},
	{"\xf4\x80\x80\x80", "\xf4\x8f\xbf\xbf"},
}

// faulty are bytes with which no character begins that stands there whole.
var faulty = []string{
	"\x00", "\x00\x00", "\x00a",
	"\x80", "\xbf", "\xc0", "\xc1", "\xf5", "\xf8", "\xfc", "\xfe", "\xff", "\xff\xff\xff\xff",
	"\xc2", "\xdf", "\xe0", "\xe0\xa0", "\xe1\x80", "\xed\x9f", "\xef\xbf", "\xf0", "\xf0\x90", "\xf0\x90\x80", "\xf3\xbf\xbf", "\xf4\x8f\xbf",
	"\xc2a", "\xe2\x82a", "\xf0\x9d\x84a", "\xc3\xc3\xa9", "\xe2\x82\xc3\xa9", "\xe2\xe2\x82\xac", "\xc3\x00", "\xe2\x82\x00",
	"\xc0\x80", "\xc1\xbf", "\xe0\x80\x80", "\xe0\x81\xbf", "\xe0\x82\x80", "\xe0\x9f\xbf", "\xf0\x80\x80\x80", "\xf0\x80\x81\xbf", "\xf0\x8f\xbf\xbf",
	"\xed\xa0\x80", "\xed\xad\xbf", "\xed\xae\x80", "\xed\xaf\xbf", "\xed\xb0\x80", "\xed\xbf\xbf", "\xed\xa0\xb4\xed\xb4\x9e",
	"\xf4\x90\x80\x80", "\xf4\xbf\xbf\xbf", "\xf5\x80\x80\x80", "\xf7\xbf\xbf\xbf", "\xf8\x88\x80\x80\x80", "\xfc\x84\x80\x80\x80\x80",
}

// strangeInts are ints that are no place of any text here.
var strangeInts = []int{math.MinInt, math.MinInt + 1, math.MinInt32, -5, -4, -2, -1, math.MaxInt - 4, math.MaxInt - 1, math.MaxInt}

// plainFirst tells how many bytes the character takes that s begins with, by the chapter's rows; 0 if there is none.
func plainFirst(s string) int {
	for _, r := range rows {
		size := len(r.least)
		if len(s) < size {
			continue
		}
		fits := true
		for i := range size {
			fits = fits && s[i] >= r.least[i] && s[i] <= r.greatest[i]
		}
		if fits {
			return size
		}
	}
	return 0
}

// plainBeginning tells where the first fault stands, the length of s if there is none, and how many characters stand ahead of it.
func plainBeginning(s string) (int, int) {
	end, count := 0, 0
	for size := plainFirst(s); size > 0; size = plainFirst(s[end:]) {
		end += size
		count++
	}
	return end, count
}

// plainBytes tells the bytes of the character with this number, as UTF-8 puts its bits.
func plainBytes(n int) string {
	low := func(n int) byte { return byte(128 + n%64) }
	switch {
	case n < 1<<7:
		return string([]byte{byte(n)})
	case n < 1<<11:
		return string([]byte{byte(0xc0 + n/64), low(n)})
	case n < 1<<16:
		return string([]byte{byte(0xe0 + n/4096), low(n / 64), low(n)})
	default:
		return string([]byte{byte(0xf0 + n/262144), low(n / 4096), low(n / 64), low(n)})
	}
}

// eachShort calls f for all texts of at most so many bytes that are made of the bytes at and beside the ends of the rows.
func eachShort(most int, f func(s string)) {
	edges := "\x00\x01a\x7f\x80\x8f\x90\x9f\xa0\xbf\xc0\xc1\xc2\xdf\xe0\xe1\xec\xed\xee\xef\xf0\xf1\xf3\xf4\xf5\xff"
	var grow func(s string)
	grow = func(s string) {
		f(s)
		if len(s) == most {
			return
		}
		for i := range len(edges) {
			grow(s + edges[i:i+1])
		}
	}
	grow("")
}

// eachEnd calls f for the characters of a row that have, at each place, its least or its greatest byte.
func eachEnd(r row, f func(s string)) {
	size := len(r.least)
	for picks := range 1 << size {
		s := []byte(r.least)
		for i := range size {
			if picks>>i&1 == 1 {
				s[i] = r.greatest[i]
			}
		}
		f(string(s))
	}
}

// short is what of s a fault's telling has room for.
func short(s string) string {
	return s[:min(len(s), 16)]
}

// Of P2.1.

func checkText(t *testing.T, s string, count int) {
	t.Helper()
	if at, bad := Fault(s); at != 0 || bad {
		t.Errorf("Fault(%x) = %d, %v, want 0, false", short(s), at, bad)
	}
	if got := Runes(s); got != count {
		t.Errorf("Runes(%x) = %d, want %d", short(s), got, count)
	}
}

func checkFault(t *testing.T, s string, place, count int) {
	t.Helper()
	if at, bad := Fault(s); at != place || !bad {
		t.Errorf("Fault(%x) = %d, %v, want %d, true", short(s), at, bad, place)
	}
	if got := Runes(s); got != count {
		t.Errorf("Runes(%x) = %d, want %d", short(s), got, count)
	}
}

func checkPlain(t *testing.T, s string) {
	t.Helper()
	if end, count := plainBeginning(s); end == len(s) {
		checkText(t, s, count)
	} else {
		checkFault(t, s, end, count)
	}
}

func TestTexts(t *testing.T) {
	for s, count := range map[string]int{
		"":                     0,
		"a":                    1,
		"aé€𝄞":                 4,
		"sensors/+/#":          11,
		"\x01\x1f\x7f\u0080":   4,
		"\ufeffa":              2,
		"\ufffd":               1,
		"\ufffd\ufffe\uffff":   3,
		"\ufdd0\U0010ffff":     2,
		"e\u0301":              2,
		"\ud7ff\ue000":         2,
		"𝄞𝄞𝄞":                  3,
		"\xc3\xa9\xe2\x82\xac": 2,
	} {
		checkText(t, s, count)
	}
}

func TestBothEndsOfEachRow(t *testing.T) {
	for _, r := range rows {
		eachEnd(r, func(s string) {
			checkText(t, s, 1)
			checkText(t, s+s, 2)
			checkText(t, "aé"+s+"𝄞", 4)
			for n := 1; n < len(s); n++ {
				checkFault(t, s[:n], 0, 0)
				checkFault(t, "é€"+s[:n]+"b", 5, 2)
				checkFault(t, s[n:], 0, 0)
			}
		})
	}
}

func TestBesideTheEndsOfEachRow(t *testing.T) {
	for _, r := range rows {
		for i := range len(r.least) {
			below := []byte(r.least)
			below[i]--
			above := []byte(r.greatest)
			above[i]++
			for _, s := range []string{string(below), string(above)} {
				checkPlain(t, s)
				if i > 0 {
					checkFault(t, s, 0, 0)
					checkFault(t, "é"+s+"é", 2, 1)
				}
			}
		}
	}
}

func TestFaultyBytes(t *testing.T) {
	for _, s := range faulty {
		checkFault(t, s, 0, 0)
		checkFault(t, "a"+s, 1, 1)
		checkFault(t, "aé€𝄞"+s, 10, 4)
		checkFault(t, "𝄞"+s+s, 4, 1)
		checkFault(t, "\ufffd"+s+"b\x00", 3, 1)
	}
}

func TestTheFirstFaultIsTold(t *testing.T) {
	checkFault(t, "a\xc3", 1, 1)
	checkFault(t, "é\x80", 2, 1)
	checkFault(t, "aé\x80b", 3, 2)
	checkFault(t, "€\xe2\x82", 3, 1)
	checkFault(t, "a\x00b\x00", 1, 1)
	checkFault(t, "ab\xff\x00c", 2, 2)
	checkFault(t, strings.Repeat("€", api.MaxText)+"\x00", 3*api.MaxText, api.MaxText)
}

func TestAllCharacters(t *testing.T) {
	for n := 1; n <= 0x10ffff; n++ {
		s := plainBytes(n)
		if n >= 0xd800 && n <= 0xdfff {
			checkFault(t, s, 0, 0)
		} else {
			checkText(t, s, 1)
		}
	}
	for n := 0x110000; n < 0x200000; n++ {
		checkFault(t, plainBytes(n), 0, 0)
	}
}

func TestAllShortTexts(t *testing.T) {
	eachShort(4, func(s string) { checkPlain(t, s) })
	for a := range 256 {
		for b := range 256 {
			checkPlain(t, string([]byte{byte(a), byte(b)}))
		}
	}
}

func TestLongTexts(t *testing.T) {
	for _, c := range []string{"a", "é", "€", "𝄞"} {
		s := strings.Repeat(c, 1<<17)
		checkText(t, s, 1<<17)
		checkFault(t, s+"\x80", len(s), 1<<17)
	}
}

// Of P2.2.

func checkPut(t *testing.T, s, want string, code api.Code) {
	t.Helper()
	if got, gotCode := Put(s); got != want || gotCode != code {
		t.Errorf("Put of %d bytes (%x) = %d bytes (%x), %d, want %d bytes (%x), %d", len(s), short(s), len(got), short(got), gotCode, len(want), short(want), code)
	}
}

func checkGet(t *testing.T, s string, at int, want string, to int, code api.Code) {
	t.Helper()
	got, gotTo, gotCode := Get(s, at)
	if got != want || gotTo != to || gotCode != code {
		t.Errorf("Get of %d bytes (%x) at %d = %d bytes (%x), %d, %d, want %d bytes (%x), %d, %d", len(s), short(s), at, len(got), short(got), gotTo, gotCode, len(want), short(want), to, code)
	}
}

// withLength puts the length of s in two bytes ahead of it.
func withLength(s string) string {
	return string([]byte{byte(len(s) / 256), byte(len(s) % 256)}) + s
}

// textOf tells a text of n bytes that ends with a character of several.
func textOf(n int) string {
	return strings.Repeat("a", n%3) + strings.Repeat("€", n/3)
}

func TestTextsGoAndComeBack(t *testing.T) {
	whole := []string{"", "a", "é", "aé€𝄞", "\ufffd", "\ufeff"}
	for _, n := range []int{2, 3, 4, 127, 128, 255, 256, 257, 65534, api.MaxText} {
		whole = append(whole, textOf(n))
	}
	for _, r := range rows {
		eachEnd(r, func(s string) { whole = append(whole, s) })
	}
	for _, s := range whole {
		put := withLength(s)
		checkPut(t, s, put, api.OK)
		checkGet(t, put, 0, s, len(put), api.OK)
		checkGet(t, "\xff\xff\xff"+put, 3, s, 3+len(put), api.OK)
		checkGet(t, "\x00"+put+"\xff\x00", 1, s, 1+len(put), api.OK)
	}
}

func TestPutRefusesWhatIsNoText(t *testing.T) {
	for _, s := range faulty {
		checkPut(t, s, "", api.Malformed)
		checkPut(t, "aé"+s, "", api.Malformed)
		checkPut(t, s+"aé", "", api.Malformed)
	}
	checkPut(t, textOf(api.MaxText-1)+"\x00", "", api.Malformed)
}

func TestPutTooLarge(t *testing.T) {
	for _, n := range []int{api.MaxText + 1, api.MaxText + 2, 2*api.MaxText + 2, 1 << 20} {
		checkPut(t, textOf(n), "", api.TooLarge)
	}
	// That it is no text goes ahead of its length.
	checkPut(t, textOf(api.MaxText)+"\x00", "", api.Malformed)
	checkPut(t, "\xff"+textOf(1<<20), "", api.Malformed)
}

func TestGetOfDataThatIsNoText(t *testing.T) {
	for _, s := range faulty {
		for _, data := range []string{s, "aé" + s, s + "aé"} {
			checkGet(t, withLength(data), 0, "", 0, api.Malformed)
			checkGet(t, "\x00\x00"+withLength(data)+"aé", 2, "", 0, api.Malformed)
		}
	}
	checkGet(t, withLength(textOf(api.MaxText-1)+"\x00"), 0, "", 0, api.Malformed)
	// A character must end where the data does.
	checkGet(t, "\x00\x01é", 0, "", 0, api.Malformed)
	checkGet(t, "\x00\x02€", 0, "", 0, api.Malformed)
	checkGet(t, "\x00\x04a𝄞", 0, "", 0, api.Malformed)
}

func TestGetOutsideTheText(t *testing.T) {
	for _, s := range []string{"", "\x00", "\x00\x00", "\x00\x01a", "\x00\x01\xff", "\x00\x02a"} {
		for _, at := range append([]int{len(s) + 1, len(s) + 2}, strangeInts...) {
			checkGet(t, s, at, "", 0, api.Unspecified)
		}
	}
}

func TestGetEndsTooEarly(t *testing.T) {
	for _, s := range []string{"", "\x00", "\xff", "\x00\x01", "\x00\x02a", "\x01\x00" + textOf(255), "\xff\xff" + textOf(api.MaxText-1)} {
		checkGet(t, s, 0, "", 0, api.Nothing)
		checkGet(t, "\x00\x00\x00"+s, 3, "", 0, api.Nothing)
	}
	checkGet(t, "\x00\x00", 2, "", 0, api.Nothing)
	checkGet(t, "\x00\x00", 1, "", 0, api.Nothing)
	// That data is missing goes ahead of what stands there.
	for _, s := range faulty {
		checkGet(t, withLength(s + "a")[:2+len(s)], 0, "", 0, api.Nothing)
	}
}

func TestPutAndGetOfShortTexts(t *testing.T) {
	eachShort(3, func(s string) {
		put := withLength(s)
		if end, _ := plainBeginning(s); end == len(s) {
			checkPut(t, s, put, api.OK)
			checkGet(t, put, 0, s, len(put), api.OK)
		} else {
			checkPut(t, s, "", api.Malformed)
			checkGet(t, put, 0, "", 0, api.Malformed)
		}
	})
}

// Of P2.3.

func checkCut(t *testing.T, s string, most int, want string) {
	t.Helper()
	if got := Cut(s, most); got != want {
		t.Errorf("Cut of %d bytes (%x) at %d = %d bytes (%x), want %d bytes (%x)", len(s), short(s), most, len(got), short(got), len(want), short(want))
	}
}

// plainCut tries all beginnings, the longest first.
func plainCut(s string, most int) string {
	for n := min(most, len(s)); n > 0; n-- {
		if end, _ := plainBeginning(s[:n]); end == n {
			return s[:n]
		}
	}
	return ""
}

func TestCutAboutTheEndOfACharacter(t *testing.T) {
	for most, want := range []string{"", "a", "a", "aé", "aé", "aé", "aé€", "aé€", "aé€", "aé€", "aé€𝄞", "aé€𝄞b", "aé€𝄞b", "aé€𝄞b"} {
		checkCut(t, "aé€𝄞b", most, want)
	}
	for _, r := range rows {
		eachEnd(r, func(s string) {
			for most := range len(s) {
				checkCut(t, s, most, "")
				checkCut(t, "é"+s, 2+most, "é")
				checkCut(t, s+s, len(s)+most, s)
			}
			checkCut(t, s, len(s), s)
			checkCut(t, s, len(s)+1, s)
			checkCut(t, s+"é", len(s)+1, s)
			checkCut(t, s+"é", len(s)+2, s+"é")
		})
	}
}

func TestCutAtStrangeInts(t *testing.T) {
	for _, s := range []string{"", "a", "aé€𝄞", textOf(api.MaxText + 5)} {
		for _, most := range strangeInts {
			if most < 1 {
				checkCut(t, s, most, "")
				checkCut(t, s+"\xff", most, "")
			} else {
				checkCut(t, s, most, s)
				checkCut(t, s+"\xff", most, s)
				checkCut(t, s+"\x00a", most, s)
			}
		}
		checkCut(t, s, 0, "")
	}
}

func TestCutAheadOfAFault(t *testing.T) {
	for _, s := range faulty {
		for most := range len(s) + 3 {
			checkCut(t, s, most, "")
			checkCut(t, "aé"+s+"b", 3+most, "aé")
			checkCut(t, "aé"+s+"b", most, plainCut("aé", most))
		}
	}
}

func TestCutOfShortTexts(t *testing.T) {
	eachShort(3, func(s string) {
		for most := -1; most <= len(s)+1; most++ {
			checkCut(t, s, most, plainCut(s, most))
		}
	})
}

func TestCutOfLongTexts(t *testing.T) {
	s := strings.Repeat("€", api.MaxText)
	checkCut(t, s, api.MaxText-1, s[:api.MaxText-3])
	checkCut(t, s, api.MaxText, s[:api.MaxText])
	checkCut(t, s, api.MaxText+1, s[:api.MaxText])
	checkCut(t, s, len(s)-1, s[:len(s)-3])
	checkCut(t, s, len(s), s)
	checkCut(t, s, len(s)+1, s)
}

// Of DOC.md's rule 4: an answer is new memory.

func TestAnswersAreNewMemory(t *testing.T) {
	s := "\x00\x03abc"
	got, _, _ := Get(s, 0)
	if unsafe.StringData(got) == unsafe.StringData(s[2:]) {
		t.Error("what Get answers shares the argument's memory")
	}
	for _, most := range []int{1, 3, 5} {
		s := "abcde"
		if unsafe.StringData(Cut(s, most)) == unsafe.StringData(s) {
			t.Errorf("what Cut answers at %d shares the argument's memory", most)
		}
	}
}

// Of DOC.md's Ways, layer 2: what is no character is told by a constant rune.

func TestNoCharacterIsAConstantRune(t *testing.T) {
	const told = noCharacter // does not compile unless it is a constant
	if _, ok := any(told).(rune); !ok {
		t.Errorf("noCharacter is of type %T", told)
	}
	for _, s := range append([]string{""}, faulty...) {
		if r, size := first(s); r != told || size != 0 {
			t.Errorf("first(%x) = %x, %d", s, r, size)
		}
	}
	for n := 1; n <= 0x10ffff; n++ {
		if n >= 0xd800 && n <= 0xdfff {
			continue
		}
		if r, size := first(plainBytes(n) + "\x80"); r != rune(n) || size != len(plainBytes(n)) {
			t.Fatalf("first of the character %x = %x, %d", n, r, size)
		}
	}
}
