package packet

import (
	"slices"
	"strings"
	"testing"
	"unsafe"

	"aqueduct/api"
	"aqueduct/prop"
)

// Of P5.3: the codes ahead of the parts.

func TestGetOfNothing(t *testing.T) {
	checkGetRefused(t, "", api.Nothing)
}

// whole are bytes behind the length that packets of a kind may have.
var whole = map[Kind]string{
	Connect:     connectBytes + "\x02\x00\x00\x00\x00\x00",
	Connack:     "\x00\x00\x00",
	Publish:     "\x00\x01a\x00\x01\x00",
	Puback:      "\x00\x01",
	Pubrec:      "\x00\x01",
	Pubrel:      "\x00\x01",
	Pubcomp:     "\x00\x01",
	Subscribe:   "\x00\x01\x00\x00\x01a\x00",
	Suback:      "\x00\x01\x00\x00",
	Unsubscribe: "\x00\x01\x00\x00\x01a",
	Unsuback:    "\x00\x01\x00\x00",
}

func TestEveryFirstByte(t *testing.T) {
	good := "\x10\x20\x30\x31\x32\x33\x34\x35\x3a\x3b\x3c\x3d\x40\x50\x62\x70\x82\x90\xa2\xb0\xc0\xd0\xe0\xf0"
	for b := range 256 {
		body := whole[Kind(b/16)]
		s := framed(byte(b), body)
		if strings.Contains(good, plainByte(b)) {
			if code := checkPlainGet(t, s); code != api.OK {
				t.Errorf("Get of %x has the code %d", s, code)
			}
			continue
		}
		checkGetRefused(t, s, api.Malformed)
		// The first byte goes ahead of the length, also where that is missing or none.
		for _, behind := range []string{"", "\x80", "\x80\x00", "\xff\xff\xff\xff", "\xff\xff\x7f", "\x01", "\x00\x00"} {
			checkGetRefused(t, plainByte(b)+behind, api.Malformed)
		}
	}
	for i := range len(good) {
		checkGetRefused(t, good[i:i+1], api.Nothing)
	}
}

func TestPublishsFlags(t *testing.T) {
	for b := range 16 {
		p := Packet{Kind: Publish, Dup: b&8 != 0, QoS: b >> 1 & 3, Retain: b&1 != 0, Topic: "a", ID: 5, Payload: "x"}
		body := "\x00\x01a\x00\x05\x00x"
		if p.QoS == 0 {
			p.ID = 0
			body = "\x00\x01a\x00x"
		}
		if p.QoS == 3 || p.Dup && p.QoS == 0 {
			checkGetRefused(t, framed(byte(0x30+b), body), api.Malformed)
		} else {
			checkBoth(t, p, framed(byte(0x30+b), body))
		}
	}
}

func TestGetOfALengthThatIsNone(t *testing.T) {
	for _, first := range []string{"\x10", "\x30", "\x40", "\x82", "\xc0", "\xe0"} {
		for _, s := range []string{"", "\x80", "\xff\xff", "\x80\x80\x80"} {
			checkGetRefused(t, first+s, api.Nothing)
		}
		for _, s := range []string{"\x80\x00", "\x82\x00\x00\x01", "\xff\x00", "\xff\xff\xff\x00", "\x80\x80\x80\x80", "\xff\xff\xff\xff\x7f", "\x80\x80\x80\x80\x01"} {
			checkGetRefused(t, first+s, api.Malformed)
		}
	}
}

func TestGetOfALengthThatIsTooLarge(t *testing.T) {
	for _, n := range []int{65537, 65538, 131072, 2097151, 2097152, api.MaxVar} {
		for _, first := range []string{"\x10", "\x30", "\x40", "\xc0"} {
			// It goes ahead of fewer or more bytes that follow.
			checkGetRefused(t, first+plainLength(n), api.TooLarge)
			checkGetRefused(t, first+plainLength(n)+"x", api.TooLarge)
			checkGetRefused(t, first+plainLength(n)+strings.Repeat("x", 140000), api.TooLarge)
		}
	}
	checkGetRefused(t, framed(0x30, "\x00\x01a\x00"+strings.Repeat("x", 65533)), api.TooLarge)
	checkGet(t, framed(0x30, "\x00\x01a\x00"+strings.Repeat("x", 65532)), Packet{Kind: Publish, Topic: "a", Payload: strings.Repeat("x", 65532)}, api.OK)
	checkGetRefused(t, "\x30\x80\x80\x04", api.Nothing)
	checkGetRefused(t, "\x30\x80\x80\x04"+strings.Repeat("\xff", 65535), api.Nothing)
	checkGetRefused(t, "\x30\x80\x80\x04"+strings.Repeat("\xff", 65537), api.Malformed)
}

func TestGetOfFewerOrMoreBytesThanTheLengthTells(t *testing.T) {
	for k := firstKind; k <= lastKind; k++ {
		s, _ := plainPut(flawless(k))
		checkGet(t, s, flawless(k), api.OK)
		for n := 1; n < len(s); n++ {
			checkGetRefused(t, s[:n], api.Nothing)
		}
		for _, behind := range []string{"\x00", "x", s, strings.Repeat("\x00", 100)} {
			checkGetRefused(t, s+behind, api.Malformed)
		}
	}
	// Both go ahead of what the parts have.
	for _, body := range []string{"\x00\x00", "\x00\x00\x00", "\xff", "\x00\x01\x00\x01\x04"} {
		checkGetRefused(t, "\x40"+plainLength(len(body)+1)+body, api.Nothing)
		checkGetRefused(t, "\x40"+plainLength(len(body)-1)+body, api.Malformed)
	}
	checkGetRefused(t, "\x40\x02\x00\x00\x00", api.Malformed)
	checkGetRefused(t, "\x40\x03\x00\x00", api.Nothing)
}

// Of P5.3: the codes of the parts.

// refused holds that what follows the length has a code, as a packet of that first byte.
func refused(t *testing.T, first byte, code api.Code, bodies ...string) {
	t.Helper()
	for _, body := range bodies {
		checkGetRefused(t, framed(first, body), code)
	}
}

func TestPartsThatAreNotWhole(t *testing.T) {
	// What may end earlier than it does, and where.
	ends := map[Kind][]int{
		Puback: {2, 3}, Pubrec: {2, 3}, Pubrel: {2, 3}, Pubcomp: {2, 3}, Disconnect: {0, 1}, Auth: {0, 1},
		Subscribe: {14, 18}, Unsubscribe: {13, 16}, Suback: {11, 12}, Unsuback: {11, 12},
	}
	// A list that has none has a code of its own.
	none := map[Kind]int{Subscribe: 10, Unsubscribe: 10, Suback: 10, Unsuback: 10}
	for k := firstKind; k <= lastKind; k++ {
		s, _ := plainPut(flawless(k))
		body := s[2:]
		if k == Publish {
			body = body[:13] // behind that all is payload
		}
		for n := range len(body) {
			cut := framed(s[0], body[:n])
			code := checkPlainGet(t, cut)
			want := api.Malformed
			if slices.Contains(ends[k], n) {
				want = api.OK
			}
			if at, ok := none[k]; ok && at == n {
				want = api.Protocol
			}
			if code != want {
				t.Errorf("of kind %d, %d bytes of %d: %d, want %d", k, n, len(body), code, want)
			}
		}
	}
}

func TestBytesLeftBehindAPacketThatEnds(t *testing.T) {
	for k := firstKind; k <= lastKind; k++ {
		s, _ := plainPut(flawless(k))
		body := s[2:]
		switch k {
		case Publish:
			checkGet(t, framed(s[0], body+"\x00\xff"), Packet{Kind: k, Dup: true, QoS: 2, ID: 7, Topic: "a", Props: []prop.Property{user}, Payload: "x\x00\xff"}, api.OK)
		case Subscribe, Unsubscribe:
			// One more of a list begins there, and isn't whole.
			refused(t, s[0], api.Malformed, body+"\x00", body+"\x00\x01", body+"\xff\xff\xff")
		case Suback, Unsuback:
			checkGet(t, framed(s[0], body+"\xff"), Packet{Kind: k, ID: 7, Props: []prop.Property{user}, Codes: []api.Code{1, 2, 3, 255}}, api.OK)
		default:
			refused(t, s[0], api.Malformed, body+"\x00", body+"x", body+"\xff\xff", body+body+"\x00")
		}
	}
	refused(t, 0xc0, api.Malformed, "\x00", "\xff", "\x00\x00")
	refused(t, 0xd0, api.Malformed, "\x00", "\xff", "\x00\x00")
	for _, first := range []byte{0x40, 0x50, 0x62, 0x70} {
		refused(t, first, api.Malformed, "\x00\x01\x00\x00\x00", "\x00\x01\x10"+userBytes+"\x00")
	}
	refused(t, 0xe0, api.Malformed, "\x00\x00\x00", "\x8e"+userBytes+"\x00")
	refused(t, 0xf0, api.Malformed, "\x00\x00\x00", "\x18"+userBytes+"\x00")
	// Without a will, a user and a pass there is none to be read.
	refused(t, 0x10, api.Malformed, connectBytes+"\x02\x00\x00\x00\x00\x00\x00", connectBytes+"\x02\x00\x00\x00\x00\x00\x00\x01u")
}

func TestConnectsNameAndVersion(t *testing.T) {
	rest := "\x02\x00\x00\x00\x00\x00"
	refused(t, 0x10, api.Malformed,
		"\x00\x04MQTS\x05"+rest, "\x00\x04mqtt\x05"+rest, "\x00\x00\x05"+rest, "\x00\x03MQT\x05"+rest, "\x00\x05MQTTT\x05"+rest, "\x00\x06MQIsdp\x03"+rest,
		"\x00\x04MQT\xff\x05"+rest, "\x00\x04MQT\x00\x05"+rest, "\xff\xffMQTT\x05"+rest, "", "\x00", "\x00\x04MQTT")
	// The name goes ahead of the version, that ahead of the flags.
	refused(t, 0x10, api.Malformed, "\x00\x04MQTS\x04"+rest)
	for v := range 256 {
		if v == 5 {
			continue
		}
		refused(t, 0x10, api.Version, "\x00\x04MQTT"+plainByte(v)+rest, "\x00\x04MQTT"+plainByte(v), "\x00\x04MQTT"+plainByte(v)+"\x03")
	}
	refused(t, 0x10, api.Malformed, "\x00\x04MQTT\x05", "\x00\x04MQTT\x05\x03"+rest[1:])
}

func TestEveryByteOfConnectsFlags(t *testing.T) {
	for b := range 256 {
		p := Packet{Kind: Connect, Clean: b&2 != 0, HasWill: b&4 != 0, HasPass: b&64 != 0, HasUser: b&128 != 0}
		body := connectBytes + plainByte(b) + "\x00\x00\x00\x00\x00"
		qos, retain := b>>3&3, b&32 != 0
		if p.HasWill {
			p.Will = Will{Topic: "t", Payload: "w", QoS: qos, Retain: retain}
			body += "\x00\x00\x01t\x00\x01w"
		}
		if p.HasUser {
			p.User = "u"
			body += "\x00\x01u"
		}
		if p.HasPass {
			p.Pass = "p"
			body += "\x00\x01p"
		}
		if b&1 != 0 || qos == 3 || !p.HasWill && (qos != 0 || retain) {
			refused(t, 0x10, api.Malformed, body, connectBytes+plainByte(b), connectBytes+plainByte(b)+"\x00\x00\x02\x23\x00")
			continue
		}
		checkBoth(t, p, framed(0x10, body))
	}
}

func TestConnacksFirstByte(t *testing.T) {
	checkGet(t, "\x20\x03\x00\x85\x00", Packet{Kind: Connack, Code: api.BadClient}, api.OK)
	checkGet(t, "\x20\x03\x01\x85\x00", Packet{Kind: Connack, Session: true, Code: api.BadClient}, api.OK)
	for b := 2; b < 256; b++ {
		refused(t, 0x20, api.Malformed, plainByte(b)+"\x00\x00", plainByte(b), plainByte(b)+"\x00\x03\x23\x00\x00")
	}
	refused(t, 0x20, api.Malformed, "", "\x00", "\x00\x00", "\x01\x00")
}

func TestEveryByteBehindAFilter(t *testing.T) {
	for b := range 256 {
		body := "\x00\x01\x00\x00\x01a" + plainByte(b)
		switch {
		case b&3 == 3 || b >= 64:
			// Malformed is named ahead of the Handling's Protocol.
			refused(t, 0x82, api.Malformed, body, body+"\x00\x01a\x30", body+"\xff")
		case b>>4 == 3:
			refused(t, 0x82, api.Protocol, body, body+"\x00\x01a\x03", body+"\xff")
		default:
			s := Sub{Filter: "a", QoS: b & 3, NoLocal: b&4 != 0, AsPublished: b&8 != 0, Handling: b >> 4}
			checkBoth(t, Packet{Kind: Subscribe, ID: 1, Subs: []Sub{s}}, framed(0x82, body))
			checkGet(t, framed(0x82, body+"\x00\x00\x00"), Packet{Kind: Subscribe, ID: 1, Subs: []Sub{s, {}}}, api.OK)
		}
	}
}

func TestAnIDOfNought(t *testing.T) {
	for _, first := range []byte{0x40, 0x50, 0x62, 0x70} {
		refused(t, first, api.Protocol, "\x00\x00", "\x00\x00\x00", "\x00\x00\x00\x00\x00", "\x00\x00\x00\xff")
		refused(t, first, api.Malformed, "", "\x00", "\x01")
	}
	for _, first := range []byte{0x82, 0x90, 0xa2, 0xb0} {
		refused(t, first, api.Protocol, "\x00\x00", "\x00\x00\x00", "\x00\x00\xff", "\x00\x00\x00\x00\x01a\x00")
		refused(t, first, api.Malformed, "", "\x00", "\x01")
	}
	refused(t, 0x32, api.Protocol, "\x00\x01a\x00\x00\x00", "\x00\x01a\x00\x00", "\x00\x01a\x00\x00\xff")
	refused(t, 0x34, api.Protocol, "\x00\x01a\x00\x00\x00x")
	refused(t, 0x32, api.Malformed, "\x00\x01a", "\x00\x01a\x00", "\x00\x01\xff\x00\x00\x00")
	// Without a QoS there is none.
	checkGet(t, "\x30\x06\x00\x01a\x00\x00\x00", Packet{Kind: Publish, Topic: "a", Payload: "\x00\x00"}, api.OK)
}

func TestTextsThatAreNone(t *testing.T) {
	for _, bad := range []string{"\x00\x01\xff", "\x00\x01\x00", "\x00\x02a\xc3", "\x00\x03\xed\xa0\x80", "\x00\x01", "\x00", "\xff\xff" + long[:60000]} {
		refused(t, 0x30, api.Malformed, bad)
		refused(t, 0x82, api.Malformed, "\x00\x01\x00"+bad, "\x00\x01\x00\x00\x01a\x00"+bad)
		refused(t, 0xa2, api.Malformed, "\x00\x01\x00"+bad, "\x00\x01\x00\x00\x01a"+bad)
	}
	for _, bad := range []string{"\x00\x01\xff", "\x00\x01\x00", "\x00\x02a\xc3", "\x00\x03\xed\xa0\x80"} {
		refused(t, 0x10, api.Malformed,
			connectBytes+"\x00\x00\x00\x00"+bad,
			connectBytes+"\x80\x00\x00\x00\x00\x00"+bad,
			connectBytes+"\x04\x00\x00\x00\x00\x00\x00"+bad+"\x00\x00")
		refused(t, 0x30, api.Malformed, bad+"\x00", bad+"\x00x")
		refused(t, 0x82, api.Malformed, "\x00\x01\x00"+bad+"\x00")
		// Data may be no text.
		data := bad[2:]
		checkGet(t, framed(0x10, connectBytes+"\x40\x00\x00\x00\x00\x00"+bad), Packet{Kind: Connect, HasPass: true, Pass: data}, api.OK)
		checkGet(t, framed(0x10, connectBytes+"\x04\x00\x00\x00\x00\x00\x00\x00\x00"+bad), Packet{Kind: Connect, HasWill: true, Will: Will{Payload: data}}, api.OK)
		checkGet(t, framed(0x30, "\x00\x00\x00"+bad), Packet{Kind: Publish, Payload: bad}, api.OK)
	}
}

// propPlaces are packets with a place for properties: what stands ahead, and what behind.
var propPlaces = []struct {
	k             Kind // 0: a will
	first         byte
	ahead, behind string
}{
	{Connect, 0x10, connectBytes + "\x00\x00\x00", "\x00\x00"},
	{0, 0x10, connectBytes + "\x04\x00\x00\x00\x00\x00", "\x00\x00\x00\x00"},
	{Connack, 0x20, "\x00\x00", ""},
	{Publish, 0x30, "\x00\x01a", "x"},
	{Publish, 0x32, "\x00\x01a\x00\x01", "x"},
	{Puback, 0x40, "\x00\x01\x00", ""},
	{Pubrec, 0x50, "\x00\x01\x10", ""},
	{Pubrel, 0x62, "\x00\x01\x00", ""},
	{Pubcomp, 0x70, "\x00\x01\x92", ""},
	{Subscribe, 0x82, "\x00\x01", "\x00\x01a\x00"},
	{Suback, 0x90, "\x00\x01", "\x00"},
	{Unsubscribe, 0xa2, "\x00\x01", "\x00\x01a"},
	{Unsuback, 0xb0, "\x00\x01", "\x00"},
	{Disconnect, 0xe0, "\x00", ""},
	{Auth, 0xf0, "\x18", ""},
}

func TestGetOfEachProperty(t *testing.T) {
	for _, x := range propPlaces {
		for id := range 50 {
			l := []prop.Property{{ID: id, N: 1, S: "s"}}
			s, code := prop.Put(l)
			if code != api.OK {
				refused(t, x.first, api.Malformed, x.ahead+"\x02"+plainByte(id)+"\x00"+x.behind)
				continue
			}
			got, code := Get(framed(x.first, x.ahead+s+x.behind))
			if !slices.Contains(plainAllowed[x.k], id) {
				refused(t, x.first, api.Protocol, x.ahead+s+x.behind, x.ahead+s, x.ahead+plainLength(7+len(s)-1)+userBytes[1:]+s[1:]+x.behind)
				continue
			}
			props := got.Props
			if x.k == 0 {
				props = got.Will.Props
			}
			if code != api.OK || !slices.Equal(props, bareProps(l)) {
				t.Errorf("of kind %d, property %d: %v, %d", x.k, id, props, code)
			}
		}
	}
}

func TestPropertiesThatCannotBeRead(t *testing.T) {
	one := userBytes[1:]
	for _, x := range propPlaces {
		with := func(s string) string { return x.ahead + plainLength(len(s)) + s + x.behind }
		// In the place of layer 4's Nothing.
		refused(t, x.first, api.Malformed, x.ahead+"\x80", x.ahead+"\xff\xff", x.ahead+"\x01", x.ahead+"\x7f"+x.behind, x.ahead+"\xff\xff\xff\x7f"+x.behind, x.ahead+"\x08"+one)
		refused(t, x.first, api.Malformed, x.ahead+"\x80\x00"+x.behind, x.ahead+"\x80\x80\x80\x80\x01"+x.behind, with("\x04\x00"), with("\x26\x00"), with(one+"\x26\x00\x01\xff\x00\x00"), with("\x80"))
		refused(t, x.first, api.TooLarge, with(strings.Repeat(one, 65)), with(strings.Repeat(one, 64)+"\xff"))
		id := plainAllowed[x.k][0]
		if id != 38 {
			twice, _ := prop.Put([]prop.Property{{ID: id}})
			refused(t, x.first, api.Protocol, with(twice[1:]+twice[1:]))
		}
		// Layer 4's code goes ahead of one that may not be, as in Put.
		strange := "\x23\x00\x00"
		if x.k == Publish {
			strange = "\x21\x00\x00"
		}
		refused(t, x.first, api.Protocol, with(strange), with(one+strange), with(strange+one))
		refused(t, x.first, api.Malformed, with(strange+"\x04"), with(strange+"\x26\x00"), with(strange[:2]))
		refused(t, x.first, api.TooLarge, with(strange+strings.Repeat(one, 64)))
	}
}

func TestWhatIsNotThere(t *testing.T) {
	for k, first := range map[Kind]byte{Puback: 0x40, Pubrec: 0x50, Pubrel: 0x62, Pubcomp: 0x70} {
		checkGet(t, framed(first, "\x01\x02"), Packet{Kind: k, ID: 258}, api.OK)
		checkGet(t, framed(first, "\x01\x02\x92"), Packet{Kind: k, ID: 258, Code: api.IDNotFound}, api.OK)
		checkGet(t, framed(first, "\x01\x02\x92\x00"), Packet{Kind: k, ID: 258, Code: api.IDNotFound}, api.OK)
		checkGet(t, framed(first, "\x01\x02\x00"+userBytes), Packet{Kind: k, ID: 258, Props: []prop.Property{user}}, api.OK)
	}
	for k, first := range map[Kind]byte{Disconnect: 0xe0, Auth: 0xf0} {
		checkGet(t, framed(first, ""), Packet{Kind: k}, api.OK)
		checkGet(t, framed(first, "\x18"), Packet{Kind: k, Code: 24}, api.OK)
		checkGet(t, framed(first, "\x18\x00"), Packet{Kind: k, Code: 24}, api.OK)
		checkGet(t, framed(first, "\x00"+userBytes), Packet{Kind: k, Props: []prop.Property{user}}, api.OK)
	}
	// But a Connack has all of it.
	refused(t, 0x20, api.Malformed, "\x00", "\x00\x00")
}

func TestListsThatHaveNone(t *testing.T) {
	for _, first := range []byte{0x82, 0x90, 0xa2, 0xb0} {
		refused(t, first, api.Protocol, "\x00\x01\x00", "\xff\xff\x00", "\x00\x01"+userBytes)
		// What stands ahead of it goes ahead.
		refused(t, first, api.Malformed, "\x00\x01", "\x00\x01\x01\x04", "\x00\x01\x07")
	}
}

func TestListsThatHaveTooMany(t *testing.T) {
	for _, x := range []struct {
		first    byte
		one, bad string
	}{
		{0x82, "\x00\x01a\x02", "\x00\x01\xff\x00"},
		{0xa2, "\x00\x01a", "\x00\x01\xff"},
		{0x90, "\x02", ""},
		{0xb0, "\x02", ""},
	} {
		full := "\x00\x01\x00" + strings.Repeat(x.one, 64)
		if code := checkPlainGet(t, framed(x.first, full)); code != api.OK {
			t.Errorf("%x: 64 have the code %d", x.first, code)
		}
		// It goes ahead of what the one that is too many has, also if that isn't whole.
		refused(t, x.first, api.TooLarge, full+x.one, full+x.one+x.one, full+"\xff", full+"\x00", full+"\x00\x01\xff", full+"\x00\x01a\x30", full+strings.Repeat(x.one, 1000))
		if x.bad == "" {
			continue
		}
		// But not ahead of what those have that may be.
		ahead := "\x00\x01\x00" + strings.Repeat(x.one, 63)
		refused(t, x.first, api.Malformed, ahead+x.bad, ahead+x.bad+x.one, ahead+x.bad+strings.Repeat(x.one, 9), "\x00\x01\x00"+x.bad+strings.Repeat(x.one, 64))
	}
	ahead := "\x00\x01\x00" + strings.Repeat("\x00\x01a\x02", 63)
	refused(t, 0x82, api.Protocol, ahead+"\x00\x01a\x30", ahead+"\x00\x01a\x30\x00\x01a\x02")
}

func TestGetTellsTheFirstCodeFromTheLeft(t *testing.T) {
	refused(t, 0x10, api.Version, "\x00\x04MQTT\x04\xff")
	refused(t, 0x10, api.Protocol, connectBytes+"\x00\x00\x00\x03\x23\x00\x00\x00\x01\xff", connectBytes+"\x00\x00\x00\x03\x23\x00\x00")
	refused(t, 0x10, api.Malformed, connectBytes+"\x00\x00\x00\x00\x00\x01\xff", connectBytes+"\x04\x00\x00\x00\x00\x01\xff\x03\x23\x00\x00")
	refused(t, 0x10, api.Protocol, connectBytes+"\x04\x00\x00\x00\x00\x00\x03\x23\x00\x00\x00\x01\xff")
	refused(t, 0x20, api.Protocol, "\x00\x00\x03\x23\x00\x00\xff")
	refused(t, 0x32, api.Malformed, "\x00\x01\xff\x00\x00\x03\x21\x00\x00")
	refused(t, 0x32, api.Protocol, "\x00\x01a\x00\x00\x01\x04", "\x00\x01a\x00\x01\x03\x21\x00\x00")
	refused(t, 0x40, api.Protocol, "\x00\x01\x00\x03\x23\x00\x00\xff")
	refused(t, 0x82, api.Protocol, "\x00\x01\x03\x23\x00\x00\x00\x01\xff", "\x00\x01\x00\x00\x01a\x30\x00\x01\xff")
	refused(t, 0x82, api.Malformed, "\x00\x01\x00\x00\x01\xff\x30", "\x00\x01\x00\x00\x01a\x03\x00\x01a\x30")
	refused(t, 0xe0, api.Protocol, "\x00\x03\x23\x00\x00\xff")
}

// Of all of P5.3: bytes held against the plain reading.

func TestGetOfAllShortBytes(t *testing.T) {
	const firsts = "\x00\x0f\x10\x11\x20\x30\x31\x32\x36\x38\x3a\x40\x50\x60\x62\x70\x82\x90\xa2\xb0\xc0\xd0\xe0\xf0"
	const edges = "\x00\x01\x02\x03\x1f\x26\x30\x7f\x80\xff"
	met := map[api.Code]int{}
	var grow func(s string, most int)
	grow = func(s string, most int) {
		met[checkPlainGet(t, s)]++
		if len(s) == most {
			return
		}
		for i := range len(edges) {
			grow(s+edges[i:i+1], most)
		}
	}
	for i := range len(firsts) {
		first := firsts[i : i+1]
		grow(first, 4)
		// With the right length much more of it is read.
		for n := range 6 {
			grow(first+plainLength(n), min(2+n, 6))
		}
	}
	checkMet(t, met, 1000, api.OK, api.Nothing, api.Malformed, api.Protocol)
}

// changed is bytes with a few of them others, or gone, or with more among them.
func (m maker) changed(s string) string {
	b := []byte(s)
	for range m.IntN(3) {
		at := m.IntN(len(b) + 1)
		switch m.IntN(4) {
		case 0:
			b = slices.Insert(b, at, byte(m.IntN(256)))
		case 1:
			b = slices.Delete(b, max(0, at-1), at)
		default:
			if at < len(b) {
				b[at] = pick(m, 0, 1, 2, 3, 0x30, 0x40, 0x80, 0xff, byte(m.IntN(256)), b[at]^1<<m.IntN(8))
			}
		}
	}
	return string(b)
}

func TestGetOfChangedBytes(t *testing.T) {
	m := newMaker(7, 0)
	met := map[api.Code]int{}
	for range 150000 {
		p := m.packet(Kind(1 + m.IntN(15)))
		s, _ := plainPut(p)
		_, body, _ := plainFrame(s)
		// The length is right mostly, or little of the parts would be read.
		s = framed(s[0], m.changed(body))
		if m.IntN(10) == 0 {
			s = m.changed(s)
		}
		met[checkPlainGet(t, s)]++
	}
	checkMet(t, met, 100, api.OK, api.Nothing, api.Malformed, api.Protocol, api.TooLarge, api.Version)
}

func FuzzGet(f *testing.F) {
	for k := firstKind; k <= lastKind; k++ {
		s, _ := plainPut(flawless(k))
		f.Add(s)
		f.Add(framed(s[0], whole[k]))
	}
	f.Fuzz(func(t *testing.T, s string) {
		checkPlainGet(t, s)
		if p, code := Get(s); code == api.OK {
			checkPlainPut(t, p)
		}
	})
}

// Of P2 and DOC.md's rules 4 and 7: nothing is changed or kept, and an answer is new memory.

func TestNothingIsChangedOrKept(t *testing.T) {
	for k := firstKind; k <= lastKind; k++ {
		p := flawless(k)
		// What lies behind the lists' lengths must stay as it is too.
		p.Props = append(p.Props, prop.Property{ID: 99})[:len(p.Props)]
		p.Subs = append(p.Subs, Sub{Filter: "behind"})[:len(p.Subs)]
		p.Filters = append(p.Filters, "behind")[:len(p.Filters)]
		p.Codes = append(p.Codes, 99)[:len(p.Codes)]
		first, code := Put(p)
		if code != api.OK || !same(p, flawless(k)) {
			t.Errorf("Put has changed %s, or the code %d", told(p), code)
		}
		if p.Props[:len(p.Props)+1][len(p.Props)].ID != 99 || p.Subs[:len(p.Subs)+1][len(p.Subs)].Filter != "behind" || p.Filters[:len(p.Filters)+1][len(p.Filters)] != "behind" || p.Codes[:len(p.Codes)+1][len(p.Codes)] != 99 {
			t.Errorf("Put of kind %d has written behind a list", k)
		}
		if again, _ := Put(p); again != first {
			t.Errorf("Put of kind %d tells another thing the second time", k)
		}
		spoil(Get(first))
		if got, _ := Get(first); !same(got, flawless(k)) {
			t.Errorf("two answers of Get share a list: %s", told(got))
		}
	}
}

// spoil writes over the lists of a packet.
func spoil(p Packet, _ api.Code) {
	for _, l := range [][]prop.Property{p.Props, p.Will.Props} {
		for i := range l {
			l[i] = prop.Property{ID: 98, S: "spoilt"}
		}
	}
	for i := range p.Subs {
		p.Subs[i] = Sub{Filter: "spoilt"}
	}
	for i := range p.Filters {
		p.Filters[i] = "spoilt"
	}
	for i := range p.Codes {
		p.Codes[i] = 98
	}
}

func TestAnswersAreNewMemory(t *testing.T) {
	inside := func(part, s string) bool {
		from := uintptr(unsafe.Pointer(unsafe.StringData(s)))
		at := uintptr(unsafe.Pointer(unsafe.StringData(part)))
		return part != "" && at >= from && at < from+uintptr(len(s))
	}
	for k := firstKind; k <= lastKind; k++ {
		s, _ := plainPut(flawless(k))
		p, code := Get(s)
		if code != api.OK {
			t.Fatal(code)
		}
		texts := []string{p.Topic, p.Payload, p.Client, p.Will.Topic, p.Will.Payload, p.User, p.Pass}
		texts = append(texts, p.Filters...)
		for _, sub := range p.Subs {
			texts = append(texts, sub.Filter)
		}
		for _, l := range append(p.Props, p.Will.Props...) {
			texts = append(texts, l.S, l.T)
		}
		for _, part := range texts {
			if inside(part, s) {
				t.Errorf("%q of Get's answer shares the argument's memory", part)
			}
		}
	}
	payload := strings.Repeat("x", 1000)
	if s, _ := Put(Packet{Kind: Publish, Payload: payload}); inside(s, payload) || inside(payload, s) {
		t.Error("Put's answer shares the argument's memory")
	}
}

// Beside a code all else is zero, also what was read ahead of it.
func TestBesideACodeAllIsZero(t *testing.T) {
	for k := firstKind; k <= lastKind; k++ {
		s, _ := plainPut(flawless(k))
		for _, bad := range []string{s[:len(s)-1], s + "\x00", framed(s[0], s[2:]+"\x00\xff\xff")} {
			if p, code := Get(bad); code != api.OK && !same(p, Packet{}) {
				t.Errorf("Get of %x = %s beside the code %d", bad, told(p), code)
			}
		}
	}
}
