package stream

import (
	"fmt"
	"math"
	"math/rand/v2"
	"reflect"
	"slices"
	"strings"
	"testing"

	"aqueduct/api"
	"aqueduct/packet"
	"aqueduct/prop"
)

// A plain reading of the chapter, which has nothing of this package. Packets go by layer 5's calls, as the chapter says.

// mosts are what a packet may have at most, from the least int to the greatest.
var mosts = []int{math.MinInt, math.MinInt + 1, -65536, -5, -2, -1, 0, 1, 2, 3, 4, 5, 6, 7, 9, 130, api.MaxPacket, api.MaxPacket + 4, api.MaxPacket + 5, api.MaxVar, api.MaxVar + 5, math.MaxInt - 1, math.MaxInt}

// noLengths are bytes behind a packet's first that are malformed as a length.
var noLengths = []string{"\x80\x00", "\xff\x00", "\x80\x80\x00", "\x81\xff\x00", "\x80\x80\x80\x00", "\xff\xff\xff\x00", "\x80\x80\x80\x80", "\xff\xff\xff\xff", "\x80\x80\x80\x81"}

// halfLengths are bytes behind a packet's first that may still become a length.
var halfLengths = []string{"", "\x80", "\xff", "\x80\x80", "\x81\xff", "\x80\x80\x80", "\xff\xff\xff"}

// plainNumber tells the number that s begins with, and in how many bytes.
func plainNumber(s string) (int, int, api.Code) {
	n, weight := 0, 1
	for i := 0; i < 4; i++ {
		if i == len(s) {
			return 0, 0, api.Nothing
		}
		n += int(s[i]%128) * weight
		weight *= 128
		if s[i] >= 128 {
			continue
		}
		if i > 0 && s[i] == 0 {
			return 0, 0, api.Malformed
		}
		return n, i + 1, api.OK
	}
	return 0, 0, api.Malformed
}

// plainBytes tells the bytes of a number.
func plainBytes(n int) string {
	var out []byte
	for n >= 128 {
		out = append(out, byte(n%128+128))
		n /= 128
	}
	return string(append(out, byte(n)))
}

// framed puts a first byte and the length ahead of what follows.
func framed(first byte, body string) string {
	return string([]byte{first}) + plainBytes(len(body)) + body
}

func plainSplit(s string, most int) ([]string, string, api.Code) {
	var whole []string
	for s != "" {
		n, took, code := plainNumber(s[1:])
		if code == api.Nothing {
			return whole, s, api.OK
		}
		if code != api.OK {
			return whole, s, code
		}
		if 1+took+n > most {
			return whole, s, api.TooLarge
		}
		if 1+took+n > len(s) {
			return whole, s, api.OK
		}
		whole = append(whole, s[:1+took+n])
		s = s[1+took+n:]
	}
	return whole, "", api.OK
}

// plainReader is one that knows all the bytes that ever came, and how many packets it told.
type plainReader struct {
	most int
	all  string
	told int
}

// read tells all the packets that came up to now, what is left, and the code.
func (r *plainReader) read() ([]packet.Packet, string, api.Code) {
	whole, left, code := plainSplit(r.all, r.most)
	var out []packet.Packet
	for _, s := range whole {
		p, c := packet.Get(s)
		if c != api.OK {
			return out, "", c
		}
		out = append(out, p)
	}
	if code != api.OK {
		left = ""
	}
	return out, left, code
}

func (r *plainReader) feed(s string) ([]packet.Packet, string, api.Code) {
	r.all += s
	out, left, code := r.read()
	fresh := out[r.told:]
	r.told = len(out)
	return fresh, left, code
}

// leveled has nil in the place of every empty list.
func leveled(p packet.Packet) packet.Packet {
	level := func(l []prop.Property) []prop.Property {
		if len(l) == 0 {
			return nil
		}
		return l
	}
	p.Props, p.Will.Props = level(p.Props), level(p.Will.Props)
	if len(p.Codes) == 0 {
		p.Codes = nil
	}
	if len(p.Subs) == 0 {
		p.Subs = nil
	}
	if len(p.Filters) == 0 {
		p.Filters = nil
	}
	return p
}

func same(a, b []packet.Packet) bool {
	return slices.EqualFunc(a, b, func(p, q packet.Packet) bool { return reflect.DeepEqual(leveled(p), leveled(q)) })
}

// short tells bytes, in sixteens, without the middle of many.
func short(s string) string {
	if len(s) <= 40 {
		return fmt.Sprintf("%x", s)
	}
	return fmt.Sprintf("%x..%x (%d)", s[:20], s[len(s)-8:], len(s))
}

func shorts(l []string) string {
	var out []string
	for _, s := range l {
		out = append(out, short(s))
	}
	return "[" + strings.Join(out, " ") + "]"
}

func kinds(l []packet.Packet) []packet.Kind {
	var out []packet.Kind
	for _, p := range l {
		out = append(out, p.Kind)
	}
	return out
}

func checkSplit(t *testing.T, s string, most int, want []string, wantLeft string, wantCode api.Code) {
	t.Helper()
	got, left, code := Split(s, most)
	if !slices.Equal(got, want) || left != wantLeft || code != wantCode {
		t.Errorf("Split(%s, %d) = %s, %s, %d, want %s, %s, %d", short(s), most, shorts(got), short(left), code, shorts(want), short(wantLeft), wantCode)
	}
}

// checkPlainSplit holds Split against the plain reading, and tells the code.
func checkPlainSplit(t *testing.T, s string, most int) api.Code {
	t.Helper()
	want, left, code := plainSplit(s, most)
	checkSplit(t, s, most, want, left, code)
	return code
}

func checkFeed(t *testing.T, r *Reader, s string, want []packet.Packet, wantLeft string, wantCode api.Code) {
	t.Helper()
	got, code := r.Feed(s)
	if !same(got, want) || code != wantCode || r.Left() != wantLeft {
		t.Errorf("Feed(%s) = %v, %d, and left %s, want %v, %d, %s", short(s), kinds(got), code, short(r.Left()), kinds(want), wantCode, short(wantLeft))
	}
}

// checkPieces feeds pieces to a new reader, holds each answer against the plain reading, and tells the last code.
func checkPieces(t *testing.T, most int, pieces []string) api.Code {
	t.Helper()
	r, plain := New(most), plainReader{most: most}
	last := api.OK
	for _, s := range pieces {
		want, left, code := plain.feed(s)
		checkFeed(t, r, s, want, left, code)
		last = code
	}
	if t.Failed() {
		t.Fatalf("the pieces were %s, the most %d", shorts(pieces), most)
	}
	return last
}

// pieced tells all that a new reader told of pieces, and the code; the packets are those of all Feeds one behind the other.
func pieced(most int, pieces []string) ([]packet.Packet, string, api.Code) {
	r := New(most)
	var all []packet.Packet
	last := api.OK
	for _, s := range pieces {
		l, code := r.Feed(s)
		all = append(all, l...)
		last = code
	}
	return all, r.Left(), last
}

// single are the bytes of s, each a piece of its own.
func single(s string) []string {
	out := make([]string, len(s))
	for i := range len(s) { // not over s, whose bytes may be characters
		out[i] = s[i : i+1]
	}
	return out
}

// ofEachKind are packets without a code: one of each kind, and a few with more in them.
func ofEachKind(t testing.TB) []string {
	t.Helper()
	user := []prop.Property{{ID: 38, S: "k", T: "v"}}
	var out []string
	for _, p := range []packet.Packet{
		{Kind: packet.Connect, Client: "c", Clean: true},
		{Kind: packet.Connect, Client: "c", Keep: 7, HasWill: true, Will: packet.Will{Topic: "w", Payload: "gone", QoS: 1, Props: user}, HasUser: true, User: "u", HasPass: true, Pass: "\x00"},
		{Kind: packet.Connack, Session: true, Props: user},
		{Kind: packet.Publish, Topic: "a"},
		{Kind: packet.Publish, Topic: "a", QoS: 1, ID: 10, Payload: "x", Props: user},
		{Kind: packet.Publish, Topic: "a/b", QoS: 2, ID: 11, Payload: strings.Repeat("\xc0\x00", 70)},
		{Kind: packet.Puback, ID: 7},
		{Kind: packet.Pubrec, ID: 8, Code: api.NoMatch},
		{Kind: packet.Pubrel, ID: 9},
		{Kind: packet.Pubcomp, ID: 9, Code: api.IDNotFound, Props: user},
		{Kind: packet.Subscribe, ID: 3, Subs: []packet.Sub{{Filter: "a/+", QoS: 2}, {Filter: "#", NoLocal: true}}},
		{Kind: packet.Suback, ID: 3, Codes: []api.Code{2, api.BadFilter}},
		{Kind: packet.Unsubscribe, ID: 4, Filters: []string{"a/+", "#"}},
		{Kind: packet.Unsuback, ID: 4, Codes: []api.Code{0, 17}},
		{Kind: packet.Pingreq},
		{Kind: packet.Pingresp},
		{Kind: packet.Disconnect, Code: api.TakenOver},
		{Kind: packet.Auth, Code: 24, Props: user},
	} {
		s, code := packet.Put(p)
		if code != api.OK {
			t.Fatalf("the bytes of %v: %d", p, code)
		}
		out = append(out, s)
	}
	return out
}

// refused are bytes of whole packets that layer 5 has a code of.
var refused = []struct {
	s    string
	code api.Code
}{
	{"\x00\x00", api.Malformed},                         // no kind
	{"\xc1\x00", api.Malformed},                         // flags that a Pingreq can't have
	{"\x36\x05\x00\x01a\x00\x01", api.Malformed},        // the QoS 3
	{"\x38\x04\x00\x01a\x00", api.Malformed},            // Dup beside the QoS 0
	{"\xc0\x01a", api.Malformed},                        // bytes left
	{"\x40\x01\x00", api.Malformed},                     // an ID that isn't whole
	{"\x40\x00", api.Malformed},                         // no ID
	{"\x40\x02\x00\x00", api.Protocol},                  // an ID 0
	{"\x82\x03\x00\x01\x00", api.Protocol},              // no Subs
	{"\x10\x07\x00\x04MQTT\x04", api.Version},           // an older one
	{"\x30\x07\x00\x01a\x03\x21\x00\x01", api.Protocol}, // a property that may not be
	{"\xb0\x44\x00\x01\x00" + strings.Repeat("\x00", 65), api.TooLarge},
}

type maker struct {
	*rand.Rand
}

func newMaker(seed uint64) maker {
	return maker{rand.New(rand.NewPCG(6, seed))}
}

func pick[T any](m maker, l ...T) T {
	return l[m.IntN(len(l))]
}

// cut makes pieces of s, empty ones among them.
func (m maker) cut(s string) []string {
	var out []string
	for s != "" {
		n := pick(m, 0, 1, 1, 2, 3, m.IntN(len(s)+1), m.IntN(20))
		n = min(n, len(s))
		out, s = append(out, s[:n]), s[n:]
	}
	for range m.IntN(3) {
		out = append(out, "")
	}
	return out
}

// stream makes bytes of good packets, with now and then one that has a code, a length that is none, or bytes of chance.
func (m maker) stream(good []string, bad int) string {
	var out strings.Builder
	for range m.IntN(12) {
		if m.IntN(bad) > 0 {
			out.WriteString(pick(m, good...))
			continue
		}
		switch m.IntN(5) {
		case 0:
			out.WriteString(pick(m, refused...).s)
		case 1:
			out.WriteString("\x30" + pick(m, noLengths...))
		case 2:
			out.WriteString(m.changed(pick(m, good...)))
		case 3:
			out.WriteString("\x30" + plainBytes(m.IntN(400)))
		default:
			out.WriteString(m.bytes(m.IntN(6)))
		}
	}
	s := out.String()
	if s != "" && m.IntN(3) == 0 {
		s = s[:m.IntN(len(s))]
	}
	return s
}

func (m maker) bytes(n int) string {
	out := make([]byte, n)
	for i := range out {
		out[i] = byte(m.IntN(256))
	}
	return string(out)
}

// changed has another byte at one place.
func (m maker) changed(s string) string {
	b := []byte(s)
	b[m.IntN(len(b))] = byte(m.IntN(256))
	return string(b)
}
