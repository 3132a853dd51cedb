package prop

import (
	"go/ast"
	"go/parser"
	"go/token"
	"math"
	"math/rand/v2"
	"slices"
	"strings"
	"testing"
	"unicode/utf8"
	"unsafe"

	"aqueduct/api"
)

// identifiers are those that the chapter lists, by their kinds.
var identifiers = map[Kind][]int{
	Byte: {1, 23, 25, 36, 37, 40, 41, 42},
	Two:  {19, 33, 34, 35},
	Four: {2, 17, 24, 39},
	Var:  {11},
	Data: {9, 22},
	Text: {3, 8, 18, 21, 26, 28, 31},
	Pair: {38},
}

// strangeInts are ints that are no place of any text here, no identifier and no number that can be told.
var strangeInts = []int{math.MinInt, math.MinInt + 1, math.MinInt32, -256, -5, -4, -2, -1, math.MaxInt - 4, math.MaxInt - 1, math.MaxInt}

// long is a text of as many bytes as a text may have, tooLong one of one more.
var (
	long    = strings.Repeat("a", api.MaxText)
	tooLong = strings.Repeat("a", api.MaxText+1)
)

// eachIdentifier calls f for all identifiers that have a kind, in order.
func eachIdentifier(f func(id int, kind Kind)) {
	for id := range 64 {
		if kind := plainKind(id); kind != None {
			f(id, kind)
		}
	}
}

// A plain reading of the chapter, with nothing of layers 1 and 2.

func plainKind(id int) Kind {
	for kind, ids := range identifiers {
		if slices.Contains(ids, id) {
			return kind
		}
	}
	return None
}

// plainNumber tells the bytes of a number from 0 to MaxVar.
func plainNumber(n int) string {
	var out []byte
	for n >= 128 {
		out = append(out, byte(n%128+128))
		n /= 128
	}
	return string(append(out, byte(n)))
}

// plainFixed tells a number's bytes in so many of them.
func plainFixed(size, n int) string {
	out := make([]byte, size)
	for i := range out {
		out[size-1-i] = byte(n)
		n /= 256
	}
	return string(out)
}

func plainSize(kind Kind) int {
	return map[Kind]int{Byte: 1, Two: 2, Four: 4}[kind]
}

func isText(s string) bool {
	return utf8.ValidString(s) && !strings.Contains(s, "\x00")
}

// plainValue tells the bytes of a property's value.
func plainValue(p Property) (string, api.Code) {
	switch kind := plainKind(p.ID); kind {
	case Var:
		if p.N < 0 || p.N > 268435455 {
			return "", api.Malformed
		}
		return plainNumber(p.N), api.OK
	case Byte, Two, Four:
		size := plainSize(kind)
		if p.N < 0 || p.N >= 1<<(8*size) {
			return "", api.Malformed
		}
		return plainFixed(size, p.N), api.OK
	}
	parts := []string{p.S}
	if p.ID == 38 {
		parts = []string{p.S, p.T}
	}
	out := ""
	for _, part := range parts {
		if plainKind(p.ID) != Data && !isText(part) {
			return "", api.Malformed
		}
		if len(part) > 65535 {
			return "", api.TooLarge
		}
		out += plainFixed(2, len(part)) + part
	}
	return out, api.OK
}

// plainPut tells what P4.2 asks for.
func plainPut(l []Property) (string, api.Code) {
	if len(l) > 64 {
		return "", api.TooLarge
	}
	out := ""
	for i, p := range l {
		if plainKind(p.ID) == None {
			return "", api.Malformed
		}
		for _, q := range l[:i] {
			if q.ID == p.ID && p.ID != 38 {
				return "", api.Protocol
			}
		}
		value, code := plainValue(p)
		if code != api.OK {
			return "", code
		}
		out += plainNumber(p.ID) + value
	}
	return plainNumber(len(out)) + out, api.OK
}

// plainRead tells the number of one to four bytes that s begins with, and how many these are.
func plainRead(s string) (int, int, api.Code) {
	n := 0
	for i := range min(4, len(s)) {
		n += int(s[i]) % 128 << (7 * i)
		if s[i] < 128 {
			if plainNumber(n) != s[:i+1] {
				return 0, 0, api.Malformed
			}
			return n, i + 1, api.OK
		}
	}
	if len(s) < 4 {
		return 0, 0, api.Nothing
	}
	return 0, 0, api.Malformed
}

// plainReadValue tells the property whose value s begins with, how many bytes it takes, and whether it is well told.
func plainReadValue(id int, s string) (Property, int, bool) {
	p := Property{ID: id}
	kind := plainKind(id)
	if kind == Var {
		n, size, code := plainRead(s)
		p.N = n
		return p, size, code == api.OK
	}
	if size := plainSize(kind); size > 0 {
		if len(s) < size {
			return p, 0, false
		}
		for i := range size {
			p.N = p.N*256 + int(s[i])
		}
		return p, size, true
	}
	into := []*string{&p.S}
	if kind == Pair {
		into = append(into, &p.T)
	}
	took := 0
	for _, part := range into {
		left := s[took:]
		if len(left) < 2 || len(left)-2 < int(left[0])*256+int(left[1]) {
			return p, 0, false
		}
		size := int(left[0])*256 + int(left[1])
		*part = left[2 : 2+size]
		if kind != Data && !isText(*part) {
			return p, 0, false
		}
		took += 2 + size
	}
	return p, took, true
}

// plainGet tells what P4.3 asks for at the beginning of s.
func plainGet(s string) ([]Property, int, api.Code) {
	length, size, code := plainRead(s)
	if code != api.OK {
		return nil, 0, code
	}
	if len(s) < size+length {
		return nil, 0, api.Nothing
	}
	var l []Property
	for rest := s[size : size+length]; rest != ""; {
		if len(l) == 64 {
			return nil, 0, api.TooLarge
		}
		id, n, code := plainRead(rest)
		if code != api.OK || plainKind(id) == None {
			return nil, 0, api.Malformed
		}
		for _, q := range l {
			if q.ID == id && id != 38 {
				return nil, 0, api.Protocol
			}
		}
		p, took, ok := plainReadValue(id, rest[n:])
		if !ok {
			return nil, 0, api.Malformed
		}
		l = append(l, p)
		rest = rest[n+took:]
	}
	return l, size + length, api.OK
}

// What is held against it.

// short is what of s a fault's telling has room for.
func short(s string) string {
	return s[:min(len(s), 24)]
}

// told is what of properties a fault's telling has room for.
func told(l []Property) []Property {
	out := slices.Clone(l[:min(len(l), 3)])
	for i := range out {
		out[i].S, out[i].T = short(out[i].S), short(out[i].T)
	}
	return out
}

func checkPut(t *testing.T, l []Property, want string, code api.Code) {
	t.Helper()
	if got, gotCode := Put(l); got != want || gotCode != code {
		t.Errorf("Put of %d, %#v = %d bytes (%x), %d, want %d bytes (%x), %d", len(l), told(l), len(got), short(got), gotCode, len(want), short(want), code)
	}
}

func checkGet(t *testing.T, s string, at int, want []Property, to int, code api.Code) {
	t.Helper()
	got, gotTo, gotCode := Get(s, at)
	if !slices.Equal(got, want) || gotTo != to || gotCode != code {
		t.Errorf("Get of %d bytes (%x) at %d = %d, %#v, %d, %d, want %d, %#v, %d, %d", len(s), short(s), at, len(got), told(got), gotTo, gotCode, len(want), told(want), to, code)
	}
}

// checkRefused holds that bytes have a code, wherever they stand and whatever stands behind them.
func checkRefused(t *testing.T, s string, code api.Code) {
	t.Helper()
	checkGet(t, s, 0, nil, 0, code)
	checkGet(t, "\x02\x01"+s, 2, nil, 0, code)
	if code != api.Nothing {
		checkGet(t, s+strings.Repeat("\x00", 16), 0, nil, 0, code)
	}
}

// checkBoth holds that properties have these bytes, and that they are read out of them, wherever they stand.
func checkBoth(t *testing.T, l []Property, bytes string) {
	t.Helper()
	checkPut(t, l, bytes, api.OK)
	checkGet(t, bytes, 0, l, len(bytes), api.OK)
	checkGet(t, "\xff\xff\xff\xff"+bytes, 4, l, 4+len(bytes), api.OK)
	checkGet(t, "\x00"+bytes+"\x21\xff\xff", 1, l, 1+len(bytes), api.OK)
}

// withLength puts the length ahead of properties' bytes.
func withLength(s string) string {
	return plainNumber(len(s)) + s
}

// users tells so many properties that may stand more than once.
func users(n int) []Property {
	return slices.Repeat([]Property{{ID: 38, S: "a", T: "b"}}, n)
}

// userBytes are the bytes of one of users.
const userBytes = "\x26\x00\x01a\x00\x01b"

// Of P4.1.

func TestKindsOfAllIdentifiers(t *testing.T) {
	listed := 0
	for kind, ids := range identifiers {
		for _, id := range ids {
			listed++
			if got := KindOf(id); got != kind {
				t.Errorf("KindOf(%d) = %d, want %d", id, got, kind)
			}
		}
	}
	if listed != 27 {
		t.Errorf("%d identifiers are listed", listed)
	}
	for id := -1 << 17; id <= 1<<17; id++ {
		if got := KindOf(id); got != plainKind(id) {
			t.Errorf("KindOf(%d) = %d, want %d", id, got, plainKind(id))
		}
	}
}

func TestKindsOfStrangeIdentifiers(t *testing.T) {
	for _, id := range append([]int{api.MaxVar, api.MaxVar + 1, 1<<31 - 1, 1 << 31}, strangeInts...) {
		if got := KindOf(id); got != None {
			t.Errorf("KindOf(%d) = %d, want None", id, got)
		}
	}
	eachIdentifier(func(id int, kind Kind) {
		for _, turn := range []int{1 << 7, 1 << 8, 1 << 16, 1 << 32, 1 << 48, math.MinInt} {
			for _, strange := range []int{id + turn, id - turn} {
				if got := KindOf(strange); got != None {
					t.Errorf("KindOf(%d) = %d, want None", strange, got)
				}
			}
		}
	})
}

// asked tells a property with nothing but what its kind asks for.
func asked(p Property) Property {
	switch plainKind(p.ID) {
	case Byte, Two, Four, Var:
		return Property{ID: p.ID, N: p.N}
	case Data, Text:
		return Property{ID: p.ID, S: p.S}
	default:
		return Property{ID: p.ID, S: p.S, T: p.T}
	}
}

func TestWhatAKindDoesNotAskFor(t *testing.T) {
	eachIdentifier(func(id int, kind Kind) {
		for _, fill := range []Property{
			{N: 7, S: "s", T: "t"},
			{N: -1, S: "s", T: "t"},
			{N: math.MaxInt, S: "s", T: "t"},
			{N: math.MinInt, S: "s", T: "t"},
			{N: 7, S: "\x00", T: "t"},
			{N: 7, S: tooLong, T: "t"},
			{N: 7, S: "s", T: "\xff"},
			{N: 7, S: "s", T: tooLong},
			{N: -1, S: "\xff" + tooLong, T: "\xff"},
			{N: -1, S: "s", T: "\xff"},
		} {
			fill.ID = id
			want, code := plainPut([]Property{asked(fill)})
			checkPut(t, []Property{fill}, want, code)
			if code == api.OK {
				checkGet(t, want, 0, []Property{asked(fill)}, len(want), api.OK)
			}
		}
	})
	// Each kind leaves of this what it asks for, so none is refused.
	checkPut(t, []Property{{ID: 1, N: 2, S: "\xff", T: tooLong}}, "\x02\x01\x02", api.OK)
	checkPut(t, []Property{{ID: 33, N: 2, S: "\xff", T: tooLong}}, "\x03\x21\x00\x02", api.OK)
	checkPut(t, []Property{{ID: 2, N: 2, S: "\xff", T: tooLong}}, "\x05\x02\x00\x00\x00\x02", api.OK)
	checkPut(t, []Property{{ID: 11, N: 2, S: "\xff", T: tooLong}}, "\x02\x0b\x02", api.OK)
	checkPut(t, []Property{{ID: 9, N: -1, S: "\xff", T: tooLong}}, "\x04\x09\x00\x01\xff", api.OK)
	checkPut(t, []Property{{ID: 3, N: -1, S: "s", T: "\xff"}}, "\x04\x03\x00\x01s", api.OK)
	checkPut(t, []Property{{ID: 38, N: -1, S: "s", T: "t"}}, "\x07\x26\x00\x01s\x00\x01t", api.OK)
}

// Of P4.2 and P4.3: what Put makes is read back.

func TestTheExample(t *testing.T) {
	checkBoth(t, []Property{{ID: 33, N: 20}}, "\x03\x21\x00\x14")
}

func TestNoProperties(t *testing.T) {
	checkBoth(t, nil, "\x00")
	checkBoth(t, []Property{}, "\x00")
}

func TestOnePropertyOfEachKind(t *testing.T) {
	for _, x := range []struct {
		p     Property
		bytes string
	}{
		{Property{ID: 1}, "\x02\x01\x00"},
		{Property{ID: 1, N: 1}, "\x02\x01\x01"},
		{Property{ID: 42, N: 255}, "\x02\x2a\xff"},
		{Property{ID: 19}, "\x03\x13\x00\x00"},
		{Property{ID: 34, N: 258}, "\x03\x22\x01\x02"},
		{Property{ID: 35, N: 65535}, "\x03\x23\xff\xff"},
		{Property{ID: 2}, "\x05\x02\x00\x00\x00\x00"},
		{Property{ID: 17, N: 0x01020304}, "\x05\x11\x01\x02\x03\x04"},
		{Property{ID: 39, N: 1<<32 - 1}, "\x05\x27\xff\xff\xff\xff"},
		{Property{ID: 11}, "\x02\x0b\x00"},
		{Property{ID: 11, N: 127}, "\x02\x0b\x7f"},
		{Property{ID: 11, N: 128}, "\x03\x0b\x80\x01"},
		{Property{ID: 11, N: 321}, "\x03\x0b\xc1\x02"},
		{Property{ID: 11, N: api.MaxVar}, "\x05\x0b\xff\xff\xff\x7f"},
		{Property{ID: 9}, "\x03\x09\x00\x00"},
		{Property{ID: 22, S: "\x00\xff\xc3"}, "\x06\x16\x00\x03\x00\xff\xc3"},
		{Property{ID: 3}, "\x03\x03\x00\x00"},
		{Property{ID: 31, S: "aé"}, "\x06\x1f\x00\x03aé"},
		{Property{ID: 38}, "\x05\x26\x00\x00\x00\x00"},
		{Property{ID: 38, S: "é"}, "\x07\x26\x00\x02é\x00\x00"},
		{Property{ID: 38, T: "é"}, "\x07\x26\x00\x00\x00\x02é"},
		{Property{ID: 38, S: "a", T: "bc"}, "\x08\x26\x00\x01a\x00\x02bc"},
	} {
		checkBoth(t, []Property{x.p}, x.bytes)
	}
}

// edges tells what stands at the ends of what a kind's values may be.
func edges(id int, kind Kind) []Property {
	var out []Property
	numbers := map[Kind][]int{
		Byte: {0, 1, 127, 128, 254, 255},
		Two:  {0, 1, 255, 256, 65534, 65535},
		Four: {0, 1, 65535, 65536, 1 << 31, 1<<32 - 2, 1<<32 - 1},
		Var:  {0, 127, 128, 16383, 16384, 2097151, 2097152, api.MaxVar - 1, api.MaxVar},
	}
	for _, n := range numbers[kind] {
		out = append(out, Property{ID: id, N: n})
	}
	texts := []string{"", "a", "é€𝄞", strings.Repeat("€", 100), long[1:], long}
	if kind == Data {
		texts = append(texts, "\x00", "\xff\xfe", strings.Repeat("\xff", api.MaxText))
	}
	if kind == Data || kind == Text {
		for _, s := range texts {
			out = append(out, Property{ID: id, S: s})
		}
	}
	if kind == Pair {
		for _, s := range texts {
			for _, other := range texts {
				out = append(out, Property{ID: id, S: s, T: other})
			}
		}
	}
	return out
}

func TestTheEdgesOfEachIdentifier(t *testing.T) {
	eachIdentifier(func(id int, kind Kind) {
		for _, p := range edges(id, kind) {
			want, code := plainPut([]Property{p})
			if code != api.OK {
				t.Fatalf("%d: the plain reading has the code %d", id, code)
			}
			checkBoth(t, []Property{p}, want)
		}
	})
}

func TestSeveralProperties(t *testing.T) {
	checkBoth(t, []Property{{ID: 33, N: 20}, {ID: 1, N: 1}}, "\x05\x21\x00\x14\x01\x01")
	checkBoth(t, []Property{{ID: 1, N: 1}, {ID: 33, N: 20}}, "\x05\x01\x01\x21\x00\x14")
	checkBoth(t, []Property{{ID: 38, S: "a", T: "b"}, {ID: 11, N: 128}, {ID: 38, S: "a", T: "b"}, {ID: 9, S: "\xff"}, {ID: 38}},
		"\x1a\x26\x00\x01a\x00\x01b\x0b\x80\x01\x26\x00\x01a\x00\x01b\x09\x00\x01\xff\x26\x00\x00\x00\x00")
	var all []Property
	eachIdentifier(func(id int, kind Kind) {
		list := edges(id, kind)
		all = append(all, asked(list[1]))
	})
	want, _ := plainPut(all)
	checkBoth(t, all, want)
	slices.Reverse(all)
	want, _ = plainPut(all)
	checkBoth(t, all, want)
}

func TestAsManyPropertiesAsMayBe(t *testing.T) {
	for _, n := range []int{1, 18, 19, api.MaxProps - 1, api.MaxProps} {
		checkBoth(t, users(n), withLength(strings.Repeat(userBytes, n)))
	}
	checkBoth(t, append(users(api.MaxProps-1), Property{ID: 1, N: 1}), withLength(strings.Repeat(userBytes, api.MaxProps-1)+"\x01\x01"))
}

func TestTheGreatestProperties(t *testing.T) {
	l := slices.Repeat([]Property{{ID: 38, S: long, T: long}}, api.MaxProps)
	one := "\x26\xff\xff" + long + "\xff\xff" + long
	checkBoth(t, l, withLength(strings.Repeat(one, api.MaxProps)))
}

func TestLengthsOfOneToFourBytes(t *testing.T) {
	for _, n := range []int{127, 128, 16383, 16384, 65535, 2097151, 2097152} {
		var l []Property
		body := ""
		for left := n; left > 0; {
			// What is left is never less than a pair takes: 5 bytes.
			size := min(left, 60005)
			if left-size > 0 && left-size < 5 {
				size -= 5
			}
			s := long[:size-5]
			l = append(l, Property{ID: 38, S: "", T: s})
			body += "\x26\x00\x00" + plainFixed(2, len(s)) + s
			left -= size
		}
		if len(body) != n {
			t.Fatalf("%d bytes, not %d", len(body), n)
		}
		checkBoth(t, l, plainNumber(n)+body)
	}
}

// Of P4.2: the codes, and which one is told.

func TestPutOfNoKind(t *testing.T) {
	for _, id := range append([]int{0, 4, 5, 6, 7, 10, 12, 16, 20, 27, 32, 43, 127, 128, 256 + 1, 1<<32 + 1, api.MaxVar, api.MaxVar + 1}, strangeInts...) {
		checkPut(t, []Property{{ID: id}}, "", api.Malformed)
		checkPut(t, []Property{{ID: id, N: 1, S: "a", T: "b"}}, "", api.Malformed)
		checkPut(t, []Property{{ID: 1}, {ID: id}, {ID: 2}}, "", api.Malformed)
		// The kind goes ahead of one ahead that has the identifier, which has the code then.
		checkPut(t, []Property{{ID: 1}, {ID: id}, {ID: id}}, "", api.Malformed)
	}
}

func TestPutOfAnIdentifierThatStandsAhead(t *testing.T) {
	eachIdentifier(func(id int, kind Kind) {
		p := Property{ID: id, N: 1, S: "a", T: "b"}
		other := Property{ID: 1}
		if id == 1 {
			other.ID = 2
		}
		for _, l := range [][]Property{{p, p}, {p, other, p}, {other, p, p}, {p, other, {ID: 38}, {ID: id}}} {
			want, code := plainPut(l)
			checkPut(t, l, want, code)
			if (code == api.OK) != (id == 38) || id != 38 && code != api.Protocol {
				t.Errorf("%d: the plain reading has the code %d", id, code)
			}
		}
		if id != 38 {
			// It goes ahead of the value's code.
			checkPut(t, []Property{p, {ID: id, N: -1, S: "\xff" + tooLong}}, "", api.Protocol)
			checkPut(t, []Property{p, {ID: id, N: math.MaxInt, S: tooLong}}, "", api.Protocol)
		}
	})
}

func TestPutOfNumbersThatCannotBeTold(t *testing.T) {
	eachIdentifier(func(id int, kind Kind) {
		first, isNumber := map[Kind]int{Byte: 1 << 8, Two: 1 << 16, Four: 1 << 32, Var: api.MaxVar + 1}[kind]
		if !isNumber {
			return
		}
		for _, n := range append([]int{first, first + 1, 2 * first, first << 8}, strangeInts...) {
			checkPut(t, []Property{{ID: id, N: n}}, "", api.Malformed)
			checkPut(t, []Property{{ID: 38}, {ID: id, N: n}}, "", api.Malformed)
		}
		if s, code := Put([]Property{{ID: id, N: first - 1}}); s == "" || code != api.OK {
			t.Errorf("%d: Put of N %d has the code %d", id, first-1, code)
		}
	})
}

func TestPutOfTextsThatCannotBeTold(t *testing.T) {
	bad := []string{"\x00", "\xff", "a\x80", "a\xc3", "\xed\xa0\x80", "\xf4\x90\x80\x80", "\xc0\x80", long + "\x00", "\xff" + tooLong}
	for _, id := range identifiers[Text] {
		for _, s := range bad {
			checkPut(t, []Property{{ID: id, S: s}}, "", api.Malformed)
		}
		checkPut(t, []Property{{ID: id, S: tooLong}}, "", api.TooLarge)
		checkPut(t, []Property{{ID: 1}, {ID: id, S: tooLong + tooLong}}, "", api.TooLarge)
	}
	for _, id := range identifiers[Data] {
		checkPut(t, []Property{{ID: id, S: tooLong}}, "", api.TooLarge)
		checkPut(t, []Property{{ID: id, S: "\xff" + tooLong}}, "", api.TooLarge)
		for _, s := range bad[:7] {
			checkBoth(t, []Property{{ID: id, S: s}}, withLength(plainNumber(id)+plainFixed(2, len(s))+s))
		}
	}
	for _, s := range bad {
		checkPut(t, []Property{{ID: 38, S: s}}, "", api.Malformed)
		checkPut(t, []Property{{ID: 38, T: s}}, "", api.Malformed)
		// Of a pair its S's, then its T's.
		checkPut(t, []Property{{ID: 38, S: s, T: tooLong}}, "", api.Malformed)
		checkPut(t, []Property{{ID: 38, S: tooLong, T: s}}, "", api.TooLarge)
	}
	checkPut(t, []Property{{ID: 38, S: tooLong}}, "", api.TooLarge)
	checkPut(t, []Property{{ID: 38, T: tooLong}}, "", api.TooLarge)
}

func TestPutOfMorePropertiesThanMayBe(t *testing.T) {
	checkPut(t, users(api.MaxProps+1), "", api.TooLarge)
	checkPut(t, users(1<<16), "", api.TooLarge)
	// It goes ahead of all other codes.
	for _, p := range []Property{{ID: 4}, {ID: -1}, {ID: 33, N: -1}, {ID: 3, S: "\xff"}} {
		for _, at := range []int{0, 1, 63, 64} {
			checkPut(t, slices.Insert(users(api.MaxProps), at, p), "", api.TooLarge)
		}
	}
	checkPut(t, append([]Property{{ID: 1}, {ID: 1}}, users(api.MaxProps-1)...), "", api.TooLarge)
	checkPut(t, make([]Property, api.MaxProps+1), "", api.TooLarge)
	checkPut(t, make([]Property, api.MaxProps), "", api.Malformed)
}

func TestPutTellsTheFirstPropertysCode(t *testing.T) {
	coded := map[api.Code][]Property{
		api.Malformed: {{ID: 4}, {ID: 33, N: -1}, {ID: 3, S: "\xff"}, {ID: 38, T: "\x00"}},
		api.Protocol:  {{ID: 1}, {ID: 1, N: -1}},
		api.TooLarge:  {{ID: 22, S: tooLong}, {ID: 31, S: tooLong}, {ID: 38, T: tooLong}},
	}
	for code, list := range coded {
		for _, p := range list {
			for _, others := range coded {
				for _, other := range others {
					checkPut(t, []Property{{ID: 1}, p, other}, "", code)
					checkPut(t, []Property{{ID: 1}, {ID: 38}, p, {ID: 2}, other}, "", code)
				}
			}
		}
	}
}

// No list that Put takes has so many bytes: 64 pairs have 8388800 at most. So it is held of the part that tells the length.
func TestBytesTogetherMoreThanMaxVar(t *testing.T) {
	for _, n := range []int{api.MaxVar + 1, api.MaxVar + 2, 1 << 31, math.MaxInt} {
		if s, code := putLength(n); s != "" || code != api.TooLarge {
			t.Errorf("putLength(%d) = %x, %d, want nothing, TooLarge", n, s, code)
		}
	}
	for _, n := range []int{0, 127, 128, 8388800, api.MaxVar} {
		if s, code := putLength(n); s != plainNumber(n) || code != api.OK {
			t.Errorf("putLength(%d) = %x, %d", n, s, code)
		}
	}
}

func TestPutOfAllShortLists(t *testing.T) {
	parts := []Property{{ID: 0}, {ID: 4}, {ID: 1, N: 1}, {ID: 1, N: 256}, {ID: 33, N: 20}, {ID: 33, N: -1}, {ID: 2, N: 1 << 32}, {ID: 11, N: 321}, {ID: 11, N: 1 << 28},
		{ID: 9, S: "\xff"}, {ID: 9, S: tooLong}, {ID: 3, S: "é"}, {ID: 3, S: "\xff"}, {ID: 3, S: tooLong}, {ID: 38, S: "a", T: "b"}, {ID: 38, S: "\x00", T: tooLong}, {ID: 38, S: tooLong, T: "\x00"}}
	var grow func(l []Property)
	grow = func(l []Property) {
		want, code := plainPut(l)
		checkPut(t, l, want, code)
		if code == api.OK {
			checkGet(t, want, 0, l, len(want), api.OK)
		}
		if len(l) == 3 {
			return
		}
		for _, p := range parts {
			grow(append(slices.Clone(l), p))
		}
	}
	grow(nil)
}

// Of P4.3: the codes, and which one is told.

func TestGetOutsideTheText(t *testing.T) {
	for _, s := range []string{"", "\x00", "\x80", "\x01", "\x03\x21\x00\x14", "\x80\x80\x80\x80"} {
		for _, at := range append([]int{len(s) + 1, len(s) + 2}, strangeInts...) {
			checkGet(t, s, at, nil, 0, api.Unspecified)
		}
		checkGet(t, s, len(s), nil, 0, api.Nothing)
	}
}

func TestGetOfALengthThatIsNone(t *testing.T) {
	for _, s := range []string{"", "\x80", "\xff\xff", "\x80\x80\x80"} {
		checkRefused(t, s, api.Nothing)
	}
	for _, s := range []string{"\x80\x00", "\x83\x00\x21\x00\x14", "\xff\xff\xff\x00", "\x80\x80\x80\x80", "\xff\xff\xff\xff\x7f"} {
		checkRefused(t, s, api.Malformed)
	}
}

func TestGetOfFewerBytesThanTheLengthTells(t *testing.T) {
	whole := "\x0c\x21\x00\x14" + userBytes + "\x01\x01"
	checkGet(t, whole, 0, []Property{{ID: 33, N: 20}, {ID: 38, S: "a", T: "b"}, {ID: 1, N: 1}}, len(whole), api.OK)
	for n := range len(whole) {
		checkRefused(t, whole[:n], api.Nothing)
	}
	checkRefused(t, "\x01", api.Nothing)
	checkRefused(t, "\xff\xff\xff\x7f", api.Nothing)
	checkRefused(t, "\xff\xff\xff\x7f\x01\x00", api.Nothing)
	// It goes ahead of what stands there.
	for _, body := range []string{"\x04", "\x01\x00\x01\x00", "\x03\x00\x01\xff", "\x80\x00", strings.Repeat(userBytes, 65)} {
		checkRefused(t, plainNumber(len(body)+1)+body, api.Nothing)
	}
}

func TestGetWithinTheseBytesAlone(t *testing.T) {
	for _, whole := range []string{"\x01\x07", "\x21\x00\x14", "\x02\x00\x00\x01\x02", "\x0b\xff\xff\xff\x7f", "\x09\x00\x02\xff\xfe", "\x03\x00\x02é", userBytes} {
		checkGet(t, withLength(whole), 0, mustGet(t, whole), 1+len(whole), api.OK)
		for n := 1; n < len(whole); n++ {
			checkRefused(t, plainNumber(n)+whole[:n], api.Malformed)
			// What stands behind would make it whole, but is none of it.
			checkRefused(t, plainNumber(n)+whole, api.Malformed)
			checkRefused(t, plainNumber(n+7)+userBytes+whole, api.Malformed)
		}
		// What stands behind is not read.
		for _, behind := range []string{"\x04", whole, "\xff\xff\xff\xff\xff"} {
			checkGet(t, withLength(whole)+behind, 0, mustGet(t, whole), 1+len(whole), api.OK)
		}
	}
	// An identifier that is not whole.
	checkRefused(t, "\x01\x80", api.Malformed)
	checkRefused(t, "\x02\x80\x80\x01", api.Malformed)
	checkRefused(t, "\x01\xa6\x00", api.Malformed)
}

// mustGet tells the properties of bytes without the length, by the plain reading.
func mustGet(t *testing.T, s string) []Property {
	t.Helper()
	l, _, code := plainGet(withLength(s))
	if code != api.OK {
		t.Fatalf("%x: the plain reading has the code %d", s, code)
	}
	return l
}

func TestGetOfNoKind(t *testing.T) {
	for id := range 1 << 15 {
		if plainKind(id) == None {
			checkGet(t, withLength(plainNumber(id)), 0, nil, 0, api.Malformed)
			checkGet(t, withLength("\x01\x01"+plainNumber(id)+"\x00\x00\x00\x00"), 0, nil, 0, api.Malformed)
		}
	}
	checkRefused(t, withLength(plainNumber(api.MaxVar)+"\x00"), api.Malformed)
	// Ahead of one that is met twice.
	checkRefused(t, "\x04\x04\x00\x04\x00", api.Malformed)
}

func TestGetOfIdentifiersThatAreNoNumbers(t *testing.T) {
	for _, s := range []string{"\x81\x00\x01", "\xa1\x00\x00\x14", "\xa6\x80\x00", "\xff\xff\xff\xff", "\x80\x80\x80\x80\x01", "\x80", "\xff\xff\xff"} {
		checkRefused(t, withLength(s), api.Malformed)
		checkRefused(t, withLength(userBytes+s), api.Malformed)
	}
}

func TestGetOfAnIdentifierThatStandsAhead(t *testing.T) {
	eachIdentifier(func(id int, kind Kind) {
		value, _ := plainValue(Property{ID: id, N: 1, S: "a", T: "b"})
		one := plainNumber(id) + value
		if id == 38 {
			checkGet(t, withLength(one+one), 0, users(2), 1+2*len(one), api.OK)
			return
		}
		for _, s := range []string{one + one, one + userBytes + one, one + one + "\x04", userBytes + one + one} {
			checkRefused(t, withLength(s), api.Protocol)
		}
		// It goes ahead of the value's code, also of a value that isn't whole.
		for _, s := range []string{one + plainNumber(id), one + one[:len(one)-1], one + plainNumber(id) + "\x00", one + plainNumber(id) + "\xff\xff\xff\xff", one + plainNumber(id) + "\x00\x01\x00"} {
			checkRefused(t, withLength(s), api.Protocol)
		}
		// But not ahead of an identifier's that isn't whole, and not ahead of one that stands ahead of it.
		checkRefused(t, withLength(one+plainNumber(id + 128)[:1]), api.Malformed)
		checkRefused(t, withLength(one+"\x04"+one), api.Malformed)
	})
}

func TestGetOfValuesThatCannotBeRead(t *testing.T) {
	for _, s := range []string{
		"\x01", "\x21", "\x21\x00", "\x02", "\x02\x00\x00\x00",
		"\x0b", "\x0b\x80", "\x0b\x80\x00", "\x0b\xff\xff\xff", "\x0b\xff\xff\xff\xff", "\x0b\x80\x80\x80\x80\x01",
		"\x09", "\x09\x00", "\x09\x00\x01", "\x09\x00\x02a", "\x09\xff\xff" + long[1:],
		"\x03", "\x03\x00", "\x03\x00\x01", "\x03\x00\x02a", "\x03\x00\x01\xff", "\x03\x00\x01\x00", "\x03\x00\x02a\xc3", "\x03\x00\x01é", "\x03\x00\x03\xed\xa0\x80",
		"\x26", "\x26\x00", "\x26\x00\x00", "\x26\x00\x00\x00", "\x26\x00\x01a", "\x26\x00\x01a\x00", "\x26\x00\x01a\x00\x01",
		"\x26\x00\x01\xff\x00\x00", "\x26\x00\x01\x00\x00\x00", "\x26\x00\x00\x00\x01\xff", "\x26\x00\x01a\x00\x01\x00", "\x26\x00\x01\xff", "\x26\x00\x01\xff\x00\x01\xff",
	} {
		checkRefused(t, withLength(s), api.Malformed)
		checkRefused(t, withLength(userBytes+"\x17\x01"+s), api.Malformed)
	}
}

func TestGetOfMorePropertiesThanMayBe(t *testing.T) {
	full := strings.Repeat(userBytes, api.MaxProps)
	checkGet(t, withLength(full), 0, users(api.MaxProps), 2+len(full), api.OK)
	// It goes ahead of all that may be said of the one more: its identifier, its kind, that it stands ahead, its value.
	for _, more := range []string{userBytes, userBytes + userBytes, "\x01\x01", "\x80", "\x80\x00", "\xff\xff\xff\xff", "\x04", "\x00", "\x26", "\x26\x00\x01\xff\x00\x00", "\x01", "\x21\x00"} {
		checkRefused(t, withLength(full+more), api.TooLarge)
	}
	first := "\x01\x01" + strings.Repeat(userBytes, api.MaxProps-1)
	for _, more := range []string{"\x01\x01", "\x01", "\x01\x01\x01\x01"} {
		checkRefused(t, withLength(first+more), api.TooLarge)
	}
	// But not ahead of what is said of those that may be.
	last := strings.Repeat(userBytes, api.MaxProps-1)
	checkRefused(t, withLength(last+"\x04"+userBytes), api.Malformed)
	checkRefused(t, withLength(last+"\x26\x00\x01\xff\x00\x00"+userBytes), api.Malformed)
	checkRefused(t, withLength("\x01\x01"+last[len(userBytes):]+"\x01\x01"+userBytes), api.Protocol)
	checkRefused(t, withLength(full + userBytes)[:2+len(full)], api.Nothing)
}

func TestGetTellsTheFirstCode(t *testing.T) {
	checkRefused(t, withLength("\x01\x01\x01\x01\x04"), api.Protocol)
	checkRefused(t, withLength("\x01\x01\x04\x01\x01"), api.Malformed)
	checkRefused(t, withLength("\x01\x01\x03\x00\x01\xff\x01\x01"), api.Malformed)
	checkRefused(t, withLength("\x01\x01\x01\x01\x03\x00\x01\xff"), api.Protocol)
}

// checkPlainGet holds Get against the plain reading, at the beginning of s and at a place.
func checkPlainGet(t *testing.T, s string) {
	t.Helper()
	l, to, code := plainGet(s)
	checkGet(t, s, 0, l, to, code)
	if code == api.OK {
		to += 2
	}
	checkGet(t, "\x01\x21"+s, 2, l, to, code)
}

func TestGetOfAllShortTexts(t *testing.T) {
	const edges = "\x00\x01\x02\x03\x04\x06\x09\x0b\x21\x26\x7f\x80\xff"
	var grow func(s string)
	grow = func(s string) {
		checkPlainGet(t, s)
		if len(s) == 5 {
			return
		}
		for i := range len(edges) {
			grow(s + edges[i:i+1])
		}
	}
	grow("")
}

func TestGetOfBytesPutTogetherByChance(t *testing.T) {
	chance := rand.New(rand.NewPCG(4, 4))
	pieces := []string{"\x01\x07", "\x17\x00", "\x21\x00\x14", "\x22\xff\xff", "\x02\x00\x00\x01\x02", "\x0b\xc1\x02", "\x0b\x00", "\x09\x00\x02\xff\xfe", "\x03\x00\x02é", "\x03\x00\x00", userBytes, userBytes, "\x26\x00\x00\x00\x00", "\x04", "\x80", "\x00", "\xff"}
	good := 11 // so many are whole; the others are rare, or little would be read
	met := map[api.Code]int{}
	for range 200000 {
		body := ""
		for range chance.IntN(6) {
			if chance.IntN(8) == 0 {
				body += pieces[chance.IntN(len(pieces))]
			} else {
				body += pieces[chance.IntN(good)]
			}
		}
		length := len(body)
		if chance.IntN(8) == 0 {
			length = max(0, length+chance.IntN(5)-2)
		}
		s := plainNumber(length) + body
		_, _, code := plainGet(s)
		met[code]++
		checkPlainGet(t, s)
	}
	for _, code := range []api.Code{api.OK, api.Nothing, api.Malformed, api.Protocol} {
		if met[code] < 1000 {
			t.Errorf("the code %d was met %d times", code, met[code])
		}
	}
}

// Of P4.4.

var several = []Property{{ID: 38, S: "a", T: "x"}, {ID: 2, N: 7}, {ID: 38, S: "b", T: "y"}, {ID: 2, N: 8}, {ID: 4, N: 1, S: "s", T: "t"}, {ID: 38, S: "a", T: "z"}, {ID: 9, S: "a", T: "no"}, {ID: 38, S: "", T: "e"}, {ID: 38, S: "a", T: "x"}, {ID: -1, S: "a", T: "no"}, {ID: 38, S: "\xff", T: "\x00"}}

func checkFind(t *testing.T, l []Property, id int, want Property, found bool) {
	t.Helper()
	if got, ok := Find(l, id); got != want || ok != found {
		t.Errorf("Find(%#v, %d) = %#v, %v, want %#v, %v", l, id, got, ok, want, found)
	}
}

func TestFind(t *testing.T) {
	checkFind(t, several, 38, Property{ID: 38, S: "a", T: "x"}, true)
	checkFind(t, several, 2, Property{ID: 2, N: 7}, true)
	checkFind(t, several, 9, Property{ID: 9, S: "a", T: "no"}, true)
	checkFind(t, several, 4, Property{ID: 4, N: 1, S: "s", T: "t"}, true)
	checkFind(t, several, -1, Property{ID: -1, S: "a", T: "no"}, true)
	checkFind(t, []Property{{ID: 1}}, 1, Property{ID: 1}, true)
	checkFind(t, []Property{{}}, 0, Property{}, true)
	long := append(users(100), Property{ID: 3, S: "last"})
	checkFind(t, long, 3, Property{ID: 3, S: "last"}, true)
}

func TestFindNone(t *testing.T) {
	for _, id := range append([]int{0, 1, 3, 39, 256 + 2, 1<<32 + 2}, strangeInts...) {
		checkFind(t, nil, id, Property{}, false)
		checkFind(t, []Property{}, id, Property{}, false)
		if id != -1 {
			checkFind(t, several, id, Property{}, false)
		}
	}
	// What lies behind a list's length is none of it.
	checkFind(t, several[:1], 2, Property{}, false)
}

func checkUsers(t *testing.T, l []Property, name string, want ...string) {
	t.Helper()
	if got := Users(l, name); !slices.Equal(got, want) {
		t.Errorf("Users(%#v, %q) = %q, want %q", l, name, got, want)
	}
}

func TestUsers(t *testing.T) {
	checkUsers(t, several, "a", "x", "z", "x")
	checkUsers(t, several, "b", "y")
	checkUsers(t, several, "", "e")
	checkUsers(t, several, "\xff", "\x00")
	checkUsers(t, []Property{{ID: 38}}, "", "")
	checkUsers(t, users(200), "a", slices.Repeat([]string{"b"}, 200)...)
}

func TestUsersNone(t *testing.T) {
	for _, name := range []string{"", "a", "A", "s", "é", tooLong} {
		checkUsers(t, nil, name)
		checkUsers(t, []Property{}, name)
		checkUsers(t, []Property{{ID: 3, S: name, T: "no"}, {ID: 37, S: name}, {ID: 38, S: name + "b", T: name}, {ID: 38, S: "b" + name, T: name}, {ID: 294, S: name}}, name)
	}
	checkUsers(t, several, "A")
	checkUsers(t, several, "aa")
	checkUsers(t, several, "x")
	checkUsers(t, several[:5], "")
	checkUsers(t, several[:1], "b")
}

// Of P2 and DOC.md's rules 4 and 7: nothing is changed or kept, and an answer is new memory.

func TestNothingIsChangedOrKept(t *testing.T) {
	memory := slices.Clone(several)
	l := memory[:3]
	s, code := Put(l)
	Find(l, 2)
	Users(l, "a")
	if !slices.Equal(memory, several) {
		t.Errorf("what was handed in is changed: %#v", memory)
	}
	got, _, _ := Get(s, 0)
	again, _, _ := Get(s, 0)
	got[0] = Property{ID: 99, S: "changed"}
	if again[0] != several[0] {
		t.Error("two answers of Get share a list")
	}
	values, others := Users(several, "a"), Users(several, "a")
	values[0] = "changed"
	if others[0] != "x" || several[0].T != "x" {
		t.Error("two answers of Users share a list")
	}
	memory[0].S = "changed"
	if after, _, _ := Get(s, 0); code != api.OK || !slices.Equal(after, several[:3]) {
		t.Errorf("Get = %#v behind a change", after)
	}
}

func TestAnswersAreNewMemory(t *testing.T) {
	s := "\x0d" + userBytes + "\x09\x00\x03xyz"
	l, _, code := Get(s, 0)
	if code != api.OK {
		t.Fatal(code)
	}
	inside := func(part, s string) bool {
		from := uintptr(unsafe.Pointer(unsafe.StringData(s)))
		at := uintptr(unsafe.Pointer(unsafe.StringData(part)))
		return at >= from && at < from+uintptr(len(s))
	}
	for _, part := range []string{l[0].S, l[0].T, l[1].S} {
		if inside(part, s) {
			t.Errorf("%q of Get's answer shares the argument's memory", part)
		}
	}
	name, value := strings.Repeat("n", 40), strings.Repeat("v", 40)
	in := []Property{{ID: 38, S: name, T: value}}
	if p, _ := Find(in, 38); inside(p.S, name) || inside(p.T, value) {
		t.Error("Find's answer shares the argument's memory")
	}
	if inside(Users(in, name)[0], value) {
		t.Error("Users' answer shares the argument's memory")
	}
}

// Of DOC.md's Ways, layer 4: kinds are numbered by iota; how a number is read is told by a closure.

func TestKindsAreNumberedInOrder(t *testing.T) {
	const first, last = None, Pair // does not compile unless they are constants
	for i, kind := range []Kind{first, Byte, Two, Four, Var, Data, Text, last} {
		if int(kind) != i {
			t.Errorf("the kind at %d is %d", i, kind)
		}
	}
	var group *ast.GenDecl
	for _, d := range parsed(t).Decls {
		if g, ok := d.(*ast.GenDecl); ok && g.Tok == token.CONST && declares(g, "None") {
			group = g
		}
	}
	if group == nil || !declares(group, "Pair") || !names(group, "iota") {
		t.Error("the kinds are not numbered by iota")
	}
}

func TestANumbersReaderIsAClosure(t *testing.T) {
	s := "\xff\x01\x02\x03\x04"
	for _, x := range []struct {
		kind  Kind
		n, to int
	}{{Byte, 1, 2}, {Two, 0x0102, 3}, {Four, 0x01020304, 5}, {Var, 1, 2}} {
		read := numberReader(x.kind)
		numberReader(Byte) // must not change how the other one reads
		if n, to, code := read(s, 1); n != x.n || to != x.to || code != api.OK {
			t.Errorf("the reader of kind %d = %d, %d, %d, want %d, %d, OK", x.kind, n, to, code, x.n, x.to)
		}
		if n, to, code := read(s, len(s)); n != 0 || to != 0 || code != api.Nothing {
			t.Errorf("the reader of kind %d at the end = %d, %d, %d", x.kind, n, to, code)
		}
	}
	for _, kind := range []Kind{None, Data, Text, Pair, -1, 8} {
		if n, to, code := numberReader(kind)(s, 0); n != 0 || to != 0 || code == api.OK {
			t.Errorf("the reader of kind %d, which is no number's, = %d, %d, %d", kind, n, to, code)
		}
	}
	var told *ast.FuncLit
	for _, d := range parsed(t).Decls {
		if f, ok := d.(*ast.FuncDecl); ok && f.Name.Name == "numberReader" {
			ast.Inspect(f, func(n ast.Node) bool {
				if lit, ok := n.(*ast.FuncLit); ok {
					told = lit
				}
				return true
			})
		}
	}
	// What makes it a closure is that it uses a variable of the function around it.
	if told == nil || !names(told, "size") {
		t.Error("how a number is read is not told by a closure")
	}
}

func parsed(t *testing.T) *ast.File {
	t.Helper()
	file, err := parser.ParseFile(token.NewFileSet(), "prop.go", nil, 0)
	if err != nil {
		t.Fatal(err)
	}
	return file
}

// declares tells whether a group of constants has one of that name.
func declares(g *ast.GenDecl, name string) bool {
	for _, s := range g.Specs {
		for _, id := range s.(*ast.ValueSpec).Names {
			if id.Name == name {
				return true
			}
		}
	}
	return false
}

// names tells whether a name is used in a piece of the program.
func names(n ast.Node, name string) bool {
	found := false
	ast.Inspect(n, func(n ast.Node) bool {
		if id, ok := n.(*ast.Ident); ok && id.Name == name {
			found = true
		}
		return true
	})
	return found
}
