package stream

import (
	"runtime"
	"slices"
	"strings"
	"testing"
	"unsafe"

	"aqueduct/api"
	"aqueduct/packet"
)

var (
	pingreq  = packet.Packet{Kind: packet.Pingreq}
	pingresp = packet.Packet{Kind: packet.Pingresp}
)

func puback(id int) packet.Packet {
	return packet.Packet{Kind: packet.Puback, ID: id}
}

// of is a list of packets.
func of(l ...packet.Packet) []packet.Packet {
	return l
}

// Of P6.2.

func TestTheExample(t *testing.T) {
	r := New(api.MaxPacket)
	checkFeed(t, r, "\xc0", nil, "\xc0", api.OK)
	checkFeed(t, r, "\x00\xc0\x00", of(pingreq, pingreq), "", api.OK)
}

func TestANilReader(t *testing.T) {
	var none *Reader
	for _, s := range []string{"", "x", "\xc0\x00", "\xc0\x80\x00"} {
		for range 2 {
			checkFeed(t, none, s, nil, "", api.Unspecified)
		}
	}
}

func TestANewReader(t *testing.T) {
	for _, most := range mosts {
		r := New(most)
		if r == nil {
			t.Fatalf("New(%d) is nil", most)
		}
		if r.Left() != "" {
			t.Errorf("New(%d) has %x left", most, r.Left())
		}
		checkFeed(t, r, "", nil, "", api.OK)
		checkFeed(t, r, "\xc0", nil, "\xc0", api.OK)
		if most < 2 {
			checkFeed(t, r, "\x00", nil, "", api.TooLarge)
		} else {
			checkFeed(t, r, "\x00", of(pingreq), "", api.OK)
		}
	}
}

func TestFeedOfPieces(t *testing.T) {
	r := New(20)
	checkFeed(t, r, "", nil, "", api.OK)
	checkFeed(t, r, "\x40", nil, "\x40", api.OK)
	checkFeed(t, r, "", nil, "\x40", api.OK)
	checkFeed(t, r, "\x02\x00", nil, "\x40\x02\x00", api.OK)
	checkFeed(t, r, "\x07", of(puback(7)), "", api.OK)
	checkFeed(t, r, "", nil, "", api.OK)
	checkFeed(t, r, "\xd0\x00\x40\x02\x01\x00\xc0", of(pingresp, puback(256)), "\xc0", api.OK)
	checkFeed(t, r, "\x00\x40\x02", of(pingreq), "\x40\x02", api.OK)
	checkFeed(t, r, "\xc0\x00\xc0\x00", of(puback(0xc000), pingreq), "", api.OK)
}

// What was left stands ahead of what comes: put the other way round these would be others.
func TestWhatWasLeftStandsAhead(t *testing.T) {
	r := New(20)
	checkFeed(t, r, "\x40\x02\x12", nil, "\x40\x02\x12", api.OK)
	checkFeed(t, r, "\x34\xd0", of(puback(0x1234)), "\xd0", api.OK)
	checkFeed(t, r, "\x00", of(pingresp), "", api.OK)
}

func TestPacketsOfEachKind(t *testing.T) {
	all := ofEachKind(t)
	var want []packet.Packet
	r := New(1000)
	for _, s := range all {
		p, code := packet.Get(s)
		if code != api.OK {
			t.Fatal(code)
		}
		checkFeed(t, r, s, of(p), "", api.OK)
		want = append(want, p)
	}
	checkFeed(t, New(1000), strings.Join(all, ""), want, "", api.OK)
}

func TestFeedOfAPacketWithACode(t *testing.T) {
	for _, bad := range refused {
		for _, ahead := range []struct {
			s    string
			want []packet.Packet
		}{{"", nil}, {"\xc0\x00", of(pingreq)}, {"\xc0\x00\x40\x02\x00\x07", of(pingreq, puback(7))}} {
			// Nothing is read behind the code: neither a packet, nor another code, nor a beginning.
			for _, behind := range []string{"", "\xd0\x00", "\xd0", "\x40\x02\x00\x00", "\x00\x00", "\x30\x80\x00", "\x30\xff\xff\xff\x7f", "\xd0\x00\x30\x80\x00"} {
				s := ahead.s + bad.s + behind
				checkFeed(t, New(100), s, ahead.want, "", bad.code)
				r := New(100)
				checkFeed(t, r, ahead.s, ahead.want, "", api.OK)
				checkFeed(t, r, bad.s+behind, nil, "", bad.code)
			}
		}
	}
}

// A packet has a code once its bytes stand whole, and not before.
func TestAPacketThatIsNotWholeHasNoCode(t *testing.T) {
	for _, bad := range refused {
		for n := range len(bad.s) {
			r := New(100)
			checkFeed(t, r, "\xc0\x00"+bad.s[:n], of(pingreq), bad.s[:n], api.OK)
			checkFeed(t, r, bad.s[n:], nil, "", bad.code)
		}
	}
}

func TestFeedOfSplitsCode(t *testing.T) {
	var bad []string
	for _, none := range noLengths {
		bad = append(bad, "\x30"+none)
	}
	for _, s := range bad {
		checkFeed(t, New(4), s, nil, "", api.Malformed)
		checkFeed(t, New(4), s+"\xc0\x00", nil, "", api.Malformed)
		checkFeed(t, New(4), "\xc0\x00\x40\x02\x00\x07"+s, of(pingreq, puback(7)), "", api.Malformed)
		checkFeed(t, New(-1), s, nil, "", api.Malformed)
	}
	for _, s := range []string{"\x40\x03", "\x40\x03\x00", "\x40\x03\x00\x07\x00", "\x40\xff\xff\xff\x7f", "\x00\x03", "\xff\x7f"} {
		checkFeed(t, New(4), s, nil, "", api.TooLarge)
		checkFeed(t, New(4), s+"\xc0\x00", nil, "", api.TooLarge)
		checkFeed(t, New(4), "\xc0\x00\x40\x02\x00\x07"+s, of(pingreq, puback(7)), "", api.TooLarge)
	}
}

// The first code from the left is told, be it layer 5's or Split's.
func TestFeedTellsTheFirstCode(t *testing.T) {
	for _, bad := range refused {
		if len(bad.s) > 9 {
			continue
		}
		checkFeed(t, New(9), bad.s+"\x30\x80\x00", nil, "", bad.code)
		checkFeed(t, New(9), bad.s+"\x30\x20", nil, "", bad.code)
		checkFeed(t, New(9), "\x30\x80\x00"+bad.s, nil, "", api.Malformed)
		checkFeed(t, New(9), "\x30\x20"+bad.s, nil, "", api.TooLarge)
	}
	checkFeed(t, New(9), "\x40\x02\x00\x00\x00\x00", nil, "", api.Protocol)
	checkFeed(t, New(9), "\x00\x00\x40\x02\x00\x00", nil, "", api.Malformed)
}

func TestBehindACode(t *testing.T) {
	codes := map[string]api.Code{"\x30\x80\x00": api.Malformed, "\x30\x70": api.TooLarge, "\x40\x02\x00\x00": api.Protocol, "\x10\x07\x00\x04MQTT\x04": api.Version, "\x00\x00": api.Malformed}
	for s, code := range codes {
		r := New(9)
		checkFeed(t, r, "\xc0\x00"+s+"\xc0\x00\xc0", of(pingreq), "", code)
		for range 2 {
			checkFeed(t, r, "", nil, "", code)
			checkFeed(t, r, "\xc0\x00", nil, "", code)
			checkFeed(t, r, "\xc0", nil, "", code)
			checkFeed(t, r, "\x00", nil, "", code)
			for other := range codes {
				checkFeed(t, r, other, nil, "", code)
			}
		}
	}
}

// A packet that layer 5 finds too large is so once it stands whole, one that the reader finds too large as soon as its length does.
func TestPacketsOfManyBytes(t *testing.T) {
	publish := func(n int) string { return framed(0x30, "\x00\x01a\x00"+strings.Repeat("x", n-4)) }
	greatest, tooGreat := publish(api.MaxPacket), publish(api.MaxPacket+1)
	want, code := packet.Get(greatest)
	if code != api.OK {
		t.Fatal(code)
	}
	checkFeed(t, New(len(greatest)), greatest, of(want), "", api.OK)
	checkFeed(t, New(api.MaxPacket+5), greatest+"\xc0", of(want), "\xc0", api.OK)
	checkFeed(t, New(len(greatest)-1), greatest, nil, "", api.TooLarge)
	checkFeed(t, New(api.MaxPacket), greatest[:4], nil, "", api.TooLarge)

	r := New(len(tooGreat))
	most := len(tooGreat) - 1
	checkFeed(t, r, tooGreat[:most], nil, tooGreat[:most], api.OK)
	checkFeed(t, r, tooGreat[most:], nil, "", api.TooLarge)
	checkFeed(t, New(most), tooGreat[:4], nil, "", api.TooLarge)
}

// Of P6.3.

// checkAllCuts holds that the bytes tell the same in one piece, byte by byte, and cut at any two places, with an empty piece at each.
func checkAllCuts(t *testing.T, most int, s string) {
	t.Helper()
	want, left, code := pieced(most, []string{s})
	check := func(pieces ...string) {
		t.Helper()
		got, gotLeft, gotCode := pieced(most, pieces)
		if !same(got, want) || gotLeft != left || gotCode != code {
			t.Errorf("%s tells %v, %s, %d, in one piece %v, %s, %d", shorts(pieces), kinds(got), short(gotLeft), gotCode, kinds(want), short(left), code)
		}
	}
	check(single(s)...)
	for i := range len(s) + 1 {
		for j := i; j <= len(s); j++ {
			check(s[:i], s[i:j], s[j:])
			check("", s[:i], "", s[i:j], "", s[j:], "")
		}
	}
}

func TestCutAnywhere(t *testing.T) {
	all := ofEachKind(t)
	for i, s := range all {
		if len(s) > 60 {
			continue
		}
		checkAllCuts(t, 60, s)
		checkAllCuts(t, 60, s+"\xc0\x00"+s)
		checkAllCuts(t, len(s)-1, s)
		checkAllCuts(t, 60, "\xc0\x00"+s[:len(s)-1])
		checkAllCuts(t, 60, all[(i+1)%len(all)][:2]+s)
	}
	for _, bad := range refused {
		if len(bad.s) <= 20 {
			checkAllCuts(t, 20, "\xc0\x00\x40\x02\x00\x07"+bad.s+"\xd0\x00")
			checkAllCuts(t, 20, bad.s+"\x30\x80\x00")
		}
	}
	for _, none := range noLengths {
		checkAllCuts(t, 20, "\xc0\x00\x40\x02\x00\x07\x30"+none+"\xd0\x00")
	}
	checkAllCuts(t, 4, "\xc0\x00\x40\x02\x00\x07\x40\x03\x00\x07\x00\xd0\x00")
	checkAllCuts(t, 4, "\xc0\x00\x40\x02\x00\x07\x40\xff\xff\xff\x7f\x00\xd0\x00")
	checkAllCuts(t, -1, "\xc0\x00\xd0\x00")
}

// All ways to cut a few bytes, of which many are no packets.
func TestEveryWayToCutShortBytes(t *testing.T) {
	bytes := "\x00\x02\x40\x80\xc0"
	var all func(s string)
	all = func(s string) {
		for cuts := range 1 << max(0, len(s)-1) {
			var pieces []string
			from := 0
			for i := 1; i < len(s); i++ {
				if cuts>>(i-1)&1 == 1 {
					pieces = append(pieces, s[from:i])
					from = i
				}
			}
			checkPieces(t, 4, append(pieces, s[from:]))
		}
		for i := 0; i < len(bytes) && len(s) < 5; i++ {
			all(s + bytes[i:i+1])
		}
	}
	all("")
}

func TestFeedOfChance(t *testing.T) {
	m, good := newMaker(2), ofEachKind(t)
	met := map[api.Code]int{}
	for range 6000 {
		most := pick(m, 5, 20, 100, 200, 200, 500, m.IntN(200))
		s := m.stream(good, 8)
		code := checkPieces(t, most, []string{s})
		met[code]++
		for _, pieces := range [][]string{single(s), m.cut(s), m.cut(s)} {
			if got := checkPieces(t, most, append(pieces, "")); got != code {
				t.Fatalf("%s tells %d, in one piece %d", shorts(pieces), got, code)
			}
		}
	}
	for _, code := range []api.Code{api.OK, api.Malformed, api.TooLarge, api.Protocol} {
		if met[code] < 50 {
			t.Errorf("the code %d was met %d times", code, met[code])
		}
	}
}

func FuzzFeed(f *testing.F) {
	for _, s := range ofEachKind(f) {
		f.Add("\xc0\x00"+s, 1, 2, 300)
	}
	for _, bad := range refused {
		f.Add(bad.s+"\xc0\x00", 1, 3, 20)
	}
	f.Fuzz(func(t *testing.T, s string, i, j, most int) {
		i = max(0, min(i, len(s)))
		j = max(i, min(j, len(s)))
		checkPieces(t, most, []string{s[:i], s[i:j], s[j:]})
	})
}

// Of P2 and the rules.

func TestReadersHaveNothingToDoWithOneAnother(t *testing.T) {
	a, b := New(9), New(4)
	checkFeed(t, a, "\x40\x02", nil, "\x40\x02", api.OK)
	checkFeed(t, b, "\xc0", nil, "\xc0", api.OK)
	checkFeed(t, a, "\x00\x07", of(puback(7)), "", api.OK)
	checkFeed(t, b, "\x00\xd0", of(pingreq), "\xd0", api.OK)
	checkFeed(t, b, "\x03", nil, "", api.TooLarge)
	checkFeed(t, a, "\xd0\x00\xc0", of(pingresp), "\xc0", api.OK)
	checkFeed(t, b, "\x00", nil, "", api.TooLarge)
	checkFeed(t, a, "\x00", of(pingreq), "", api.OK)
	checkFeed(t, New(4), "\xc0\x00", of(pingreq), "", api.OK)
}

// within tells whether a part stands in the memory of s.
func within(part, s string) bool {
	from := uintptr(unsafe.Pointer(unsafe.StringData(s)))
	at := uintptr(unsafe.Pointer(unsafe.StringData(part)))
	return part != "" && at >= from && at < from+uintptr(len(s))
}

func TestAnswersAreNewMemory(t *testing.T) {
	one := framed(0x30, "\x00\x03a/b\x00payload")
	s := strings.Clone(one + one + one[:9])
	whole, left, _ := Split(s, 100)
	for i, part := range append(whole, left) {
		if within(part, s) {
			t.Errorf("what Split answers at %d shares the argument's memory", i)
		}
	}
	r := New(100)
	packets, _ := r.Feed(s)
	if len(packets) != 2 {
		t.Fatalf("%d packets", len(packets))
	}
	kept := r.left.String()
	if within(kept, s) {
		t.Error("what a reader keeps shares what it was fed")
	}
	for _, p := range packets {
		for _, part := range []string{p.Topic, p.Payload} {
			if within(part, s) || within(part, kept) {
				t.Errorf("%q of a packet shares memory", part)
			}
		}
	}
	if a, b := r.Left(), r.Left(); within(a, kept) || within(a, b) || within(a, s) {
		t.Error("what Left answers shares memory")
	}
}

// Whoever has an answer may change it, and nobody else is to see that.
func TestAnAnswerMayBeChanged(t *testing.T) {
	all := strings.Join(ofEachKind(t), "")
	want, _, _ := pieced(1000, []string{all})
	r := New(1000)
	for range 3 {
		got, code := r.Feed(all + "\xc0")
		if !same(got, want) || code != api.OK {
			t.Fatalf("%v, %d", kinds(got), code)
		}
		for i := range got {
			for j := range got[i].Props {
				got[i].Props[j].S = "other"
			}
			clear(got[i].Subs)
			clear(got[i].Filters)
			clear(got[i].Codes)
		}
		clear(got[:cap(got)])
		checkFeed(t, r, "\x00", of(pingreq), "", api.OK)
	}
	a, _, _ := Split(all, 1000)
	b, _, _ := Split(all, 1000)
	clear(a[:cap(a)])
	if !slices.Equal(b, ofEachKind(t)) {
		t.Error("two answers of Split share memory")
	}
}

// The same bytes are told alike by whatever reader, at whatever time.
func TestAnswersHangOnWhatWasFedAlone(t *testing.T) {
	m, good := newMaker(3), ofEachKind(t)
	for range 200 {
		pieces := m.cut(m.stream(good, 8))
		a, aLeft, aCode := pieced(100, pieces)
		b, bLeft, bCode := pieced(100, pieces)
		if !same(a, b) || aLeft != bLeft || aCode != bCode {
			t.Fatalf("%s is told in two ways", shorts(pieces))
		}
	}
}

// Bytes that come one by one are not all copied at each of them.
func TestManyBytesOneByOne(t *testing.T) {
	const size = 1 << 18
	s := framed(0x30, strings.Repeat("x", size))
	r := New(len(s))
	var before, behind runtime.MemStats
	runtime.ReadMemStats(&before)
	for i := range len(s) - 1 {
		if l, code := r.Feed(s[i : i+1]); len(l) > 0 || code != api.OK {
			t.Fatalf("%d: %d packets, %d", i, len(l), code)
		}
	}
	runtime.ReadMemStats(&behind)
	if took := behind.TotalAlloc - before.TotalAlloc; took > 100*size {
		t.Errorf("%d bytes took %d bytes of memory", size, took)
	}
	if r.Left() != s[:len(s)-1] {
		t.Errorf("%d of %d bytes are left", len(r.Left()), len(s)-1)
	}
	checkFeed(t, r, s[len(s)-1:], nil, "", api.TooLarge) // layer 5's
}

// Behind a code, and behind packets, a reader keeps no bytes that it has no use for.
func TestNoMoreIsKeptThanIsLeft(t *testing.T) {
	many := strings.Repeat("\xc0\x00", 1<<16)
	r := New(9)
	r.Feed(many + "\xc0")
	if r.left.Cap() > 1000 {
		t.Errorf("%d bytes are kept for 1", r.left.Cap())
	}
	r.Feed("\x00" + many + "\x40\x02\x00\x00")
	if r.left.Cap() > 0 {
		t.Errorf("%d bytes are kept behind a code", r.left.Cap())
	}
}
