package packet

import (
	"math"
	"slices"
	"strings"
	"testing"

	"aqueduct/api"
	"aqueduct/prop"
)

// Of P5.1.

func TestAllowedOfEachKind(t *testing.T) {
	listed := 0
	for k := Kind(0); k <= lastKind; k++ {
		for _, id := range plainAllowed[k] {
			listed++
			if !Allowed(k, id) {
				t.Errorf("Allowed(%d, %d) = false", k, id)
			}
		}
		for id := -300; id <= 70000; id++ {
			if want := slices.Contains(plainAllowed[k], id); Allowed(k, id) != want {
				t.Errorf("Allowed(%d, %d) = %v", k, id, !want)
			}
		}
		for _, id := range strangeInts {
			if Allowed(k, id) {
				t.Errorf("Allowed(%d, %d) = true", k, id)
			}
		}
	}
	if listed != 7+9+17+8+6*2+2+1+4+4 {
		t.Errorf("%d are listed", listed)
	}
}

func TestAllowedOfNoKind(t *testing.T) {
	kinds := append([]int{16, 17, 18, 31, 32, 255, 256}, strangeInts...)
	for k := range 16 {
		kinds = append(kinds, -k-1, 16+k, 256+k, 1<<16+k, 1<<32+k, math.MinInt+k)
	}
	for _, k := range kinds {
		for id := -50; id <= 300; id++ {
			if Allowed(Kind(k), id) {
				t.Errorf("Allowed(%d, %d) = true", k, id)
			}
		}
		for _, id := range strangeInts {
			if Allowed(Kind(k), id) {
				t.Errorf("Allowed(%d, %d) = true", k, id)
			}
		}
	}
}

// Of P5.2 to P5.4: the bytes of packets, which are read back.

func TestTheExample(t *testing.T) {
	checkBoth(t, Packet{Kind: Publish, Topic: "a", QoS: 1, ID: 10, Payload: "x"}, "\x32\x07\x00\x01\x61\x00\x0a\x00\x78")
}

// connectBytes are a Connect's up to its flags.
const connectBytes = "\x00\x04MQTT\x05"

func TestBytesOfConnect(t *testing.T) {
	for _, x := range []struct {
		p     Packet
		bytes string
	}{
		{Packet{}, "\x10\x0d" + connectBytes + "\x00\x00\x00\x00\x00\x00"},
		{Packet{Clean: true}, "\x10\x0d" + connectBytes + "\x02\x00\x00\x00\x00\x00"},
		{Packet{Keep: 1}, "\x10\x0d" + connectBytes + "\x00\x00\x01\x00\x00\x00"},
		{Packet{Keep: 65535}, "\x10\x0d" + connectBytes + "\x00\xff\xff\x00\x00\x00"},
		{Packet{Client: "cé"}, "\x10\x10" + connectBytes + "\x00\x00\x00\x00\x00\x03cé"},
		{Packet{Props: []prop.Property{{ID: 33, N: 20}, user}}, "\x10\x17" + connectBytes + "\x00\x00\x00\x0a\x21\x00\x14\x26\x00\x01k\x00\x01v\x00\x00"},
		{Packet{HasUser: true}, "\x10\x0f" + connectBytes + "\x80\x00\x00\x00\x00\x00\x00\x00"},
		{Packet{HasUser: true, User: "u"}, "\x10\x10" + connectBytes + "\x80\x00\x00\x00\x00\x00\x00\x01u"},
		{Packet{HasPass: true}, "\x10\x0f" + connectBytes + "\x40\x00\x00\x00\x00\x00\x00\x00"},
		{Packet{HasPass: true, Pass: "\x00\xff"}, "\x10\x11" + connectBytes + "\x40\x00\x00\x00\x00\x00\x00\x02\x00\xff"},
		{Packet{HasUser: true, User: "u", HasPass: true, Pass: "p"}, "\x10\x13" + connectBytes + "\xc0\x00\x00\x00\x00\x00\x00\x01u\x00\x01p"},
		{Packet{HasWill: true}, "\x10\x12" + connectBytes + "\x04\x00\x00\x00\x00\x00\x00\x00\x00\x00\x00"},
		{Packet{HasWill: true, Will: Will{QoS: 1}}, "\x10\x12" + connectBytes + "\x0c\x00\x00\x00\x00\x00\x00\x00\x00\x00\x00"},
		{Packet{HasWill: true, Will: Will{QoS: 2}}, "\x10\x12" + connectBytes + "\x14\x00\x00\x00\x00\x00\x00\x00\x00\x00\x00"},
		{Packet{HasWill: true, Will: Will{Retain: true}}, "\x10\x12" + connectBytes + "\x24\x00\x00\x00\x00\x00\x00\x00\x00\x00\x00"},
		{Packet{HasWill: true, Will: Will{Topic: "t", Payload: "\xff", Props: []prop.Property{{ID: 24, N: 1}}}}, "\x10\x19" + connectBytes + "\x04\x00\x00\x00\x00\x00\x05\x18\x00\x00\x00\x01\x00\x01t\x00\x01\xff"},
		{Packet{Clean: true, Keep: 258, Client: "c", Props: []prop.Property{{ID: 25, N: 1}}, HasWill: true, Will: Will{Topic: "t", Payload: "w", QoS: 2, Retain: true, Props: []prop.Property{{ID: 1, N: 1}}}, HasUser: true, User: "u", HasPass: true, Pass: "p"},
			"\x10\x1f" + connectBytes + "\xf6\x01\x02\x02\x19\x01\x00\x01c\x02\x01\x01\x00\x01t\x00\x01w\x00\x01u\x00\x01p"},
	} {
		x.p.Kind = Connect
		checkBoth(t, x.p, x.bytes)
	}
}

func TestBytesOfConnack(t *testing.T) {
	checkBoth(t, Packet{Kind: Connack}, "\x20\x03\x00\x00\x00")
	checkBoth(t, Packet{Kind: Connack, Session: true}, "\x20\x03\x01\x00\x00")
	checkBoth(t, Packet{Kind: Connack, Code: api.Quota}, "\x20\x03\x00\x97\x00")
	checkBoth(t, Packet{Kind: Connack, Session: true, Code: 255, Props: []prop.Property{user}}, "\x20\x0a\x01\xff"+userBytes)
}

func TestBytesOfPublish(t *testing.T) {
	checkBoth(t, Packet{Kind: Publish}, "\x30\x03\x00\x00\x00")
	checkBoth(t, Packet{Kind: Publish, Retain: true}, "\x31\x03\x00\x00\x00")
	checkBoth(t, Packet{Kind: Publish, QoS: 1, ID: 1}, "\x32\x05\x00\x00\x00\x01\x00")
	checkBoth(t, Packet{Kind: Publish, QoS: 2, ID: 65535}, "\x34\x05\x00\x00\xff\xff\x00")
	checkBoth(t, Packet{Kind: Publish, QoS: 1, ID: 256, Dup: true}, "\x3a\x05\x00\x00\x01\x00\x00")
	checkBoth(t, Packet{Kind: Publish, QoS: 2, ID: 258, Dup: true, Retain: true}, "\x3d\x05\x00\x00\x01\x02\x00")
	checkBoth(t, Packet{Kind: Publish, Topic: "aé", Payload: "\x00\xff"}, "\x30\x08\x00\x03aé\x00\x00\xff")
	checkBoth(t, Packet{Kind: Publish, Topic: "a", Props: []prop.Property{user}}, "\x30\x0b\x00\x01a"+userBytes)
	checkBoth(t, Packet{Kind: Publish, Topic: "a", QoS: 2, ID: 3, Props: []prop.Property{{ID: 11, N: 321}, {ID: 35, N: 2}}, Payload: "xy"}, "\x34\x0e\x00\x01a\x00\x03\x06\x0b\xc1\x02\x23\x00\x02xy")
}

func TestBytesOfAcknowledgements(t *testing.T) {
	for k, first := range map[Kind]string{Puback: "\x40", Pubrec: "\x50", Pubrel: "\x62", Pubcomp: "\x70"} {
		checkBoth(t, Packet{Kind: k, ID: 1}, first+"\x02\x00\x01")
		checkBoth(t, Packet{Kind: k, ID: 65535}, first+"\x02\xff\xff")
		checkBoth(t, Packet{Kind: k, ID: 258, Code: api.NoMatch}, first+"\x03\x01\x02\x10")
		checkBoth(t, Packet{Kind: k, ID: 258, Code: 1}, first+"\x03\x01\x02\x01")
		checkBoth(t, Packet{Kind: k, ID: 3, Props: []prop.Property{user}}, first+"\x0b\x00\x03\x00"+userBytes)
		checkBoth(t, Packet{Kind: k, ID: 3, Code: api.IDNotFound, Props: []prop.Property{{ID: 31, S: "é"}}}, first+"\x09\x00\x03\x92\x05\x1f\x00\x02é")
	}
}

func TestBytesOfSubscribe(t *testing.T) {
	one := func(s Sub) Packet { return Packet{Kind: Subscribe, ID: 258, Subs: []Sub{s}} }
	for _, x := range []struct {
		s Sub
		b string
	}{
		{Sub{}, "\x00"}, {Sub{QoS: 1}, "\x01"}, {Sub{QoS: 2}, "\x02"}, {Sub{NoLocal: true}, "\x04"}, {Sub{AsPublished: true}, "\x08"}, {Sub{Handling: 1}, "\x10"}, {Sub{Handling: 2}, "\x20"},
		{Sub{QoS: 2, NoLocal: true, AsPublished: true, Handling: 2}, "\x2e"},
	} {
		checkBoth(t, one(x.s), "\x82\x06\x01\x02\x00\x00\x00"+x.b)
		x.s.Filter = "a/#"
		checkBoth(t, one(x.s), "\x82\x09\x01\x02\x00\x00\x03a/#"+x.b)
	}
	checkBoth(t, Packet{Kind: Subscribe, ID: 1, Props: []prop.Property{{ID: 11, N: 7}}, Subs: []Sub{{Filter: "a", QoS: 2}, {Filter: "", Handling: 1}, {Filter: "a", QoS: 1}}},
		"\x82\x10\x00\x01\x02\x0b\x07\x00\x01a\x02\x00\x00\x10\x00\x01a\x01")
}

func TestBytesOfUnsubscribe(t *testing.T) {
	checkBoth(t, Packet{Kind: Unsubscribe, ID: 1, Filters: []string{""}}, "\xa2\x05\x00\x01\x00\x00\x00")
	checkBoth(t, Packet{Kind: Unsubscribe, ID: 258, Filters: []string{"a", "é", "a"}}, "\xa2\x0d\x01\x02\x00\x00\x01a\x00\x02é\x00\x01a")
	checkBoth(t, Packet{Kind: Unsubscribe, ID: 1, Props: []prop.Property{user}, Filters: []string{"a"}}, "\xa2\x0d\x00\x01"+userBytes+"\x00\x01a")
}

func TestBytesOfSubackAndUnsuback(t *testing.T) {
	for k, first := range map[Kind]string{Suback: "\x90", Unsuback: "\xb0"} {
		checkBoth(t, Packet{Kind: k, ID: 1, Codes: []api.Code{0}}, first+"\x04\x00\x01\x00\x00")
		checkBoth(t, Packet{Kind: k, ID: 258, Codes: []api.Code{2, api.BadFilter, 0, 255}}, first+"\x07\x01\x02\x00\x02\x8f\x00\xff")
		checkBoth(t, Packet{Kind: k, ID: 1, Props: []prop.Property{user}, Codes: []api.Code{1}}, first+"\x0b\x00\x01"+userBytes+"\x01")
	}
}

func TestBytesOfTheShortOnes(t *testing.T) {
	checkBoth(t, Packet{Kind: Pingreq}, "\xc0\x00")
	checkBoth(t, Packet{Kind: Pingresp}, "\xd0\x00")
	for k, first := range map[Kind]string{Disconnect: "\xe0", Auth: "\xf0"} {
		checkBoth(t, Packet{Kind: k}, first+"\x00")
		checkBoth(t, Packet{Kind: k, Code: 1}, first+"\x01\x01")
		checkBoth(t, Packet{Kind: k, Code: api.TakenOver}, first+"\x01\x8e")
		checkBoth(t, Packet{Kind: k, Props: []prop.Property{user}}, first+"\x09\x00"+userBytes)
		checkBoth(t, Packet{Kind: k, Code: 24, Props: []prop.Property{{ID: 31}}}, first+"\x05\x18\x03\x1f\x00\x00")
	}
}

func TestEveryCodeIsKept(t *testing.T) {
	for c := range 256 {
		code, b := api.Code(c), plainByte(c)
		checkBoth(t, Packet{Kind: Connack, Code: code}, "\x20\x03\x00"+b+"\x00")
		checkBoth(t, Packet{Kind: Suback, ID: 1, Codes: []api.Code{code}}, "\x90\x04\x00\x01\x00"+b)
		if c > 0 {
			checkBoth(t, Packet{Kind: Pubrec, ID: 1, Code: code}, "\x50\x03\x00\x01"+b)
			checkBoth(t, Packet{Kind: Disconnect, Code: code}, "\xe0\x01"+b)
		}
	}
}

func TestEveryIDIsKept(t *testing.T) {
	for n := 1; n <= 65535; n++ {
		checkBoth(t, Packet{Kind: Puback, ID: n}, "\x40\x02"+plainTwo(n))
	}
}

// noise has in all fields what no packet could have.
func noise() Packet {
	bad := []prop.Property{{ID: 4, N: -1, S: "\xff"}, {ID: 4}}
	return Packet{
		Dup: true, Retain: true, QoS: 3, ID: -1, Topic: "\xff", Payload: tooLong, Code: 255, Codes: make([]api.Code, 65), Props: bad,
		Client: "\xff", Clean: true, Keep: -1, HasWill: true, Will: Will{Topic: "\xff", Payload: tooLong, QoS: 3, Retain: true, Props: bad},
		HasUser: true, HasPass: true, User: "\xff", Pass: tooLong, Session: true, Subs: make([]Sub, 65), Filters: make([]string, 65),
	}
}

func TestWhatAKindDoesNotHaveCountsForNothing(t *testing.T) {
	m := newMaker(1, 0)
	for k := firstKind; k <= lastKind; k++ {
		for range 200 {
			p := m.packet(k)
			want, code := plainPut(p)
			if code != api.OK {
				t.Fatalf("%s: the plain reading has the code %d", told(p), code)
			}
			checkPut(t, p, want, api.OK)
			checkPut(t, mixed(p, noise()), want, api.OK)
			// What Get tells of it is 0 and empty.
			checkGet(t, want, bare(p), api.OK)
		}
	}
}

// Of P5.2: the codes, and which one is told.

func TestPutOfNoKind(t *testing.T) {
	for _, k := range append([]int{0, 16, 17, 255, 256, 256 + 3, 1<<32 + 3, 1<<48 + 12}, strangeInts...) {
		checkPutRefused(t, Packet{Kind: Kind(k)}, api.Malformed)
		p := noise()
		p.Kind = Kind(k)
		checkPutRefused(t, p, api.Malformed)
		checkPutRefused(t, Packet{Kind: Kind(k), ID: 1, Topic: "a", Subs: []Sub{{}}, Filters: []string{"a"}, Codes: []api.Code{0}}, api.Malformed)
	}
}

// flaw is one thing by which a packet is refused.
type flaw struct {
	name string
	code api.Code
	make func(p *Packet)
}

func textFlaws(name string, at func(p *Packet) *string) []flaw {
	return []flaw{
		{name + " is no text", api.Malformed, func(p *Packet) { *at(p) = "a\xff" }},
		{name + " has a nought", api.Malformed, func(p *Packet) { *at(p) = "\x00" }},
		{name + " is too long", api.TooLarge, func(p *Packet) { *at(p) = tooLong }},
		{name + " is no text and too long", api.Malformed, func(p *Packet) { *at(p) = tooLong + "\xff" }},
	}
}

func dataFlaws(name string, at func(p *Packet) *string) []flaw {
	return []flaw{
		{name + " is too long", api.TooLarge, func(p *Packet) { *at(p) = tooLong }},
		{name + " is no text and too long", api.TooLarge, func(p *Packet) { *at(p) = tooLong + "\xff" }},
	}
}

// propFlaws are those of properties, of which those of the identifier not may not be.
func propFlaws(name string, not int, at func(p *Packet) *[]prop.Property) []flaw {
	set := func(l ...prop.Property) func(p *Packet) { return func(p *Packet) { *at(p) = l } }
	return []flaw{
		{name + " have no kind", api.Malformed, set(prop.Property{ID: 4})},
		{name + " are too many", api.TooLarge, set(slices.Repeat([]prop.Property{user}, 65)...)},
		{name + " stand twice", api.Protocol, set(prop.Property{ID: 31}, prop.Property{ID: 31})},
		{name + " have no text", api.Malformed, set(user, prop.Property{ID: 38, S: "\xff"})},
		{name + " have a text that is too long", api.TooLarge, set(prop.Property{ID: 38, T: tooLong})},
		{name + " may not be", api.Protocol, set(user, prop.Property{ID: not})},
		// Layer 4's code goes ahead of one that may not be.
		{name + " may not be, and have no kind", api.Malformed, set(prop.Property{ID: not}, prop.Property{ID: 4})},
		{name + " may not be, and are too many", api.TooLarge, set(slices.Repeat([]prop.Property{{ID: not}}, 65)...)},
		{name + " may not be, and have a text that is too long", api.TooLarge, set(prop.Property{ID: not}, prop.Property{ID: 38, S: tooLong})},
	}
}

func intFlaws(name string, code api.Code, at func(p *Packet) *int, more ...int) []flaw {
	var out []flaw
	for _, n := range append(more, strangeInts...) {
		out = append(out, flaw{name, code, func(p *Packet) { *at(p) = n }})
	}
	return out
}

func idFlaws() []flaw {
	return intFlaws("the ID", api.Protocol, func(p *Packet) *int { return &p.ID }, 0)
}

func ownPropFlaws(not int) []flaw {
	return propFlaws("properties", not, func(p *Packet) *[]prop.Property { return &p.Props })
}

func connectFlaws() [][]flaw {
	return [][]flaw{
		intFlaws("the will's QoS", api.Malformed, func(p *Packet) *int { return &p.Will.QoS }, 3, 4),
		intFlaws("Keep", api.Malformed, func(p *Packet) *int { return &p.Keep }),
		ownPropFlaws(35),
		textFlaws("Client", func(p *Packet) *string { return &p.Client }),
		propFlaws("the will's properties", 35, func(p *Packet) *[]prop.Property { return &p.Will.Props }),
		textFlaws("the will's Topic", func(p *Packet) *string { return &p.Will.Topic }),
		dataFlaws("the will's Payload", func(p *Packet) *string { return &p.Will.Payload }),
		textFlaws("User", func(p *Packet) *string { return &p.User }),
		dataFlaws("Pass", func(p *Packet) *string { return &p.Pass }),
	}
}

func publishFlaws() [][]flaw {
	flags := intFlaws("the QoS", api.Malformed, func(p *Packet) *int { return &p.QoS }, 3, 4)
	flags = append(flags, flaw{"Dup beside the QoS 0", api.Malformed, func(p *Packet) { p.Dup, p.QoS = true, 0 }})
	return [][]flaw{
		flags,
		textFlaws("Topic", func(p *Packet) *string { return &p.Topic }),
		idFlaws(),
		ownPropFlaws(33),
	}
}

// subFlaws are of how many there are, of a first one's filter, of its byte, and of the next one.
func subFlaws() [][]flaw {
	first := func(p *Packet) *Sub { return &p.Subs[0] }
	last := func(p *Packet) *Sub { return &p.Subs[len(p.Subs)-1] }
	return [][]flaw{
		{
			{"no Subs", api.Protocol, func(p *Packet) { p.Subs = nil }},
			{"too many Subs", api.TooLarge, func(p *Packet) { p.Subs = make([]Sub, 65) }},
			{"far too many Subs", api.TooLarge, func(p *Packet) { p.Subs = slices.Repeat([]Sub{{Filter: "\xff", QoS: 3}}, 1000) }},
		},
		textFlaws("a Filter", func(p *Packet) *string { return &first(p).Filter }),
		append(intFlaws("a QoS", api.Malformed, func(p *Packet) *int { return &first(p).QoS }, 3, 4),
			intFlaws("a Handling", api.Malformed, func(p *Packet) *int { return &first(p).Handling }, 3, 4)...),
		textFlaws("the last Filter", func(p *Packet) *string { return &last(p).Filter }),
		append(intFlaws("the last QoS", api.Malformed, func(p *Packet) *int { return &last(p).QoS }, 3),
			intFlaws("the last Handling", api.Malformed, func(p *Packet) *int { return &last(p).Handling }, 3)...),
	}
}

func filterFlaws() [][]flaw {
	first := func(p *Packet) *string { return &p.Filters[0] }
	last := func(p *Packet) *string { return &p.Filters[len(p.Filters)-1] }
	return [][]flaw{
		{
			{"no Filters", api.Protocol, func(p *Packet) { p.Filters = []string{} }},
			{"too many Filters", api.TooLarge, func(p *Packet) { p.Filters = make([]string, 65) }},
			{"far too many Filters", api.TooLarge, func(p *Packet) { p.Filters = slices.Repeat([]string{"\xff"}, 1000) }},
		},
		textFlaws("a Filter", first),
		textFlaws("the last Filter", last),
	}
}

func codeFlaws() []flaw {
	return []flaw{
		{"no Codes", api.Protocol, func(p *Packet) { p.Codes = nil }},
		{"too many Codes", api.TooLarge, func(p *Packet) { p.Codes = make([]api.Code, 65) }},
	}
}

// flaws are those of a kind, part by part, in the order in which the parts stand; that all is too long comes last.
func flaws(k Kind) [][]flaw {
	var out [][]flaw
	switch k {
	case Connect:
		out = connectFlaws()
	case Publish:
		out = publishFlaws()
	case Connack, Disconnect, Auth:
		out = [][]flaw{ownPropFlaws(35)}
	case Puback, Pubrec, Pubrel, Pubcomp:
		out = [][]flaw{idFlaws(), ownPropFlaws(35)}
	case Subscribe:
		out = append([][]flaw{idFlaws(), ownPropFlaws(35)}, subFlaws()...)
	case Unsubscribe:
		out = append([][]flaw{idFlaws(), ownPropFlaws(35)}, filterFlaws()...)
	case Suback, Unsuback:
		out = [][]flaw{idFlaws(), ownPropFlaws(35), codeFlaws()}
	default:
		return nil
	}
	return append(out, []flaw{{"all is too long", api.TooLarge, func(p *Packet) {
		p.Props = []prop.Property{{ID: 38, S: long, T: "a"}}
	}}})
}

// flawless is a packet of a kind that has all that its kind may have.
func flawless(k Kind) Packet {
	p := Packet{
		Kind: k, Dup: true, QoS: 2, ID: 7, Topic: "a", Payload: "x", Code: api.Quota, Codes: []api.Code{1, 2, 3}, Props: []prop.Property{user},
		Client: "c", Clean: true, Keep: 9, HasWill: true, Will: Will{Topic: "t", Payload: "w", QoS: 2, Retain: true, Props: []prop.Property{user}},
		HasUser: true, HasPass: true, User: "u", Pass: "p", Session: true,
		Subs: []Sub{{Filter: "a", QoS: 1}, {Filter: "b"}, {Filter: "c", Handling: 2}}, Filters: []string{"a", "b", "c"},
	}
	p = mixed(p, Packet{})
	if len(plainAllowed[k]) == 0 {
		p.Props = nil
	}
	return p
}

func TestPutTellsTheCodeOfEachPart(t *testing.T) {
	for k := firstKind; k <= lastKind; k++ {
		if _, code := Put(flawless(k)); code != api.OK {
			t.Errorf("Put of %s has the code %d", told(flawless(k)), code)
		}
		for _, part := range flaws(k) {
			for _, f := range part {
				p := flawless(k)
				f.make(&p)
				if s, code := Put(p); s != "" || code != f.code {
					t.Errorf("of kind %d, %s: %d bytes, %d, want none, %d", k, f.name, len(s), code, f.code)
				}
			}
		}
	}
}

func TestPutTellsTheFirstPartsCode(t *testing.T) {
	for k := firstKind; k <= lastKind; k++ {
		parts := flaws(k)
		for i := range parts {
			for _, f := range parts[i] {
				for j := i + 1; j < len(parts); j++ {
					for _, g := range parts[j] {
						p := flawless(k)
						// The one that stands behind is made first, for a list that is none has nothing that could be wrong.
						g.make(&p)
						f.make(&p)
						if s, code := Put(p); s != "" || code != f.code {
							t.Errorf("of kind %d, %s ahead of %s: %d bytes, %d, want none, %d", k, f.name, g.name, len(s), code, f.code)
						}
					}
				}
			}
		}
	}
}

// flags go first, though Topic's code is another one.
func TestPutTellsFlagsFirst(t *testing.T) {
	checkPutRefused(t, Packet{Kind: Publish, QoS: 3, Topic: tooLong, ID: 1}, api.Malformed)
	checkPutRefused(t, Packet{Kind: Publish, Dup: true, Topic: tooLong}, api.Malformed)
	checkPutRefused(t, Packet{Kind: Publish, QoS: -1, Dup: true, Topic: tooLong}, api.Malformed)
	checkPutRefused(t, Packet{Kind: Publish, QoS: 1, Topic: tooLong}, api.TooLarge)
	checkPutRefused(t, Packet{Kind: Connect, HasWill: true, Will: Will{QoS: 3}, Client: tooLong}, api.Malformed)
	checkPutRefused(t, Packet{Kind: Connect, HasWill: true, Will: Will{QoS: 2, Topic: tooLong}, Client: tooLong, Keep: -1}, api.Malformed)
}

func TestDupAndRetainBesideEachQoS(t *testing.T) {
	for _, qos := range append([]int{0, 1, 2, 3, 4}, strangeInts...) {
		for _, dup := range []bool{false, true} {
			for _, retain := range []bool{false, true} {
				p := Packet{Kind: Publish, QoS: qos, Dup: dup, Retain: retain, ID: 1}
				code := checkPlainPut(t, p)
				if want := qos < 0 || qos > 2 || qos == 0 && dup; want != (code == api.Malformed) {
					t.Errorf("QoS %d, Dup %v: %d", qos, dup, code)
				}
			}
		}
	}
}

func TestPutOfEachProperty(t *testing.T) {
	for k := Kind(0); k <= lastKind; k++ {
		if k == Pingreq || k == Pingresp {
			continue
		}
		for id := range 50 {
			want := api.OK
			switch {
			case prop.KindOf(id) == prop.None:
				want = api.Malformed
			case !slices.Contains(plainAllowed[k], id):
				want = api.Protocol
			}
			p := flawless(max(k, Connect))
			l := []prop.Property{{ID: id, N: 1, S: "s"}}
			if k == 0 {
				p.Will.Props = l
			} else {
				p.Props = l
			}
			if code := checkPlainPut(t, p); code != want {
				t.Errorf("kind %d, property %d: %d, want %d", k, id, code, want)
			}
		}
	}
}

func TestAsManyAsMayBe(t *testing.T) {
	for _, n := range []int{1, 2, 63, 64} {
		checkBoth(t, Packet{Kind: Subscribe, ID: 1, Subs: slices.Repeat([]Sub{{Filter: "a", QoS: 1}}, n)}, framed(0x82, "\x00\x01\x00"+strings.Repeat("\x00\x01a\x01", n)))
		checkBoth(t, Packet{Kind: Unsubscribe, ID: 1, Filters: slices.Repeat([]string{"a"}, n)}, framed(0xa2, "\x00\x01\x00"+strings.Repeat("\x00\x01a", n)))
		checkBoth(t, Packet{Kind: Suback, ID: 1, Codes: slices.Repeat([]api.Code{2}, n)}, framed(0x90, "\x00\x01\x00"+strings.Repeat("\x02", n)))
		checkBoth(t, Packet{Kind: Unsuback, ID: 1, Codes: slices.Repeat([]api.Code{2}, n)}, framed(0xb0, "\x00\x01\x00"+strings.Repeat("\x02", n)))
		checkBoth(t, Packet{Kind: Puback, ID: 1, Props: slices.Repeat([]prop.Property{user}, n)}, framed(0x40, "\x00\x01\x00"+plainLength(7*n)+strings.Repeat(userBytes[1:], n)))
	}
}

// Of MaxPacket: what follows the length may have so many bytes, and no more.

func TestPacketsOfManyBytes(t *testing.T) {
	for _, n := range []int{127, 128, 16383, 16384, 65535, 65536} {
		payload := strings.Repeat("\xff", n-4)
		checkBoth(t, Packet{Kind: Publish, Topic: "a", Payload: payload}, "\x30"+plainLength(n)+"\x00\x01a\x00"+payload)
	}
	for _, n := range []int{65537, 65538, 131072, 2097152, 1 << 24} {
		checkPutRefused(t, Packet{Kind: Publish, Topic: "a", Payload: strings.Repeat("\xff", n-4)}, api.TooLarge)
	}
	// The payload goes without a length of its own, so that it may be longer than data may be.
	checkBoth(t, Packet{Kind: Publish, Payload: strings.Repeat("x", 65533)}, "\x30\x80\x80\x04\x00\x00\x00"+strings.Repeat("x", 65533))
	checkPutRefused(t, Packet{Kind: Publish, Payload: strings.Repeat("x", 65534)}, api.TooLarge)
	checkBoth(t, Packet{Kind: Publish, QoS: 1, ID: 1, Payload: strings.Repeat("x", 65531)}, "\x32\x80\x80\x04\x00\x00\x00\x01\x00"+strings.Repeat("x", 65531))
	checkPutRefused(t, Packet{Kind: Publish, QoS: 1, ID: 1, Payload: strings.Repeat("x", 65532)}, api.TooLarge)
}

func TestOtherPacketsOfManyBytes(t *testing.T) {
	for _, x := range []struct {
		fixed int // what follows the length, but for the text of so many bytes
		p     func(s string) Packet
	}{
		{13, func(s string) Packet { return Packet{Kind: Connect, Client: s} }},
		{18, func(s string) Packet { return Packet{Kind: Connect, HasWill: true, Will: Will{Payload: s}} }},
		{15, func(s string) Packet { return Packet{Kind: Connect, HasPass: true, Pass: s} }},
		{6, func(s string) Packet { return Packet{Kind: Subscribe, ID: 1, Subs: []Sub{{Filter: s}}} }},
		{5, func(s string) Packet { return Packet{Kind: Unsubscribe, ID: 1, Filters: []string{s}} }},
		{9, func(s string) Packet { return Packet{Kind: Disconnect, Props: []prop.Property{{ID: 38, S: s}}} }},
		{11, func(s string) Packet { return Packet{Kind: Puback, ID: 1, Props: []prop.Property{{ID: 38, S: s}}} }},
		{12, func(s string) Packet {
			return Packet{Kind: Suback, ID: 1, Props: []prop.Property{{ID: 38, S: s}}, Codes: []api.Code{1, 2}}
		}},
	} {
		most := long[:api.MaxPacket-x.fixed]
		s, code := Put(x.p(most))
		if len(s) != 4+api.MaxPacket || code != api.OK {
			t.Errorf("of kind %d: %d bytes, %d", x.p("").Kind, len(s), code)
		}
		checkGet(t, s, x.p(most), api.OK)
		checkPutRefused(t, x.p(most+"a"), api.TooLarge)
	}
	checkPutRefused(t, Packet{Kind: Unsubscribe, ID: 1, Filters: slices.Repeat([]string{long}, 64)}, api.TooLarge)
}

func TestPutOfChance(t *testing.T) {
	for _, bad := range []int{3, 15, 60} {
		m := newMaker(uint64(bad), bad)
		met := map[api.Code]int{}
		for range 10000 {
			p := m.packet(Kind(m.IntN(16)))
			met[checkPlainPut(t, p)]++
		}
		checkMet(t, met, 100, api.OK, api.Malformed, api.Protocol, api.TooLarge)
	}
}

// Of P5.4.

func TestGetOfWhatPutGives(t *testing.T) {
	m := newMaker(4, 0)
	for range 50000 {
		p := m.packet(Kind(1 + m.IntN(15)))
		s, code := Put(p)
		if code != api.OK {
			t.Fatalf("Put of %s has the code %d", told(p), code)
		}
		checkGet(t, s, bare(p), api.OK)
		again, code := Get(s)
		if code == api.OK {
			checkPut(t, again, s, api.OK)
		}
	}
}

func TestBytesThatPutWouldNotGive(t *testing.T) {
	for _, x := range []struct {
		bytes, put string
		p          Packet
	}{
		{"\x40\x03\x00\x01\x00", "\x40\x02\x00\x01", Packet{Kind: Puback, ID: 1}},
		{"\x40\x04\x00\x01\x00\x00", "\x40\x02\x00\x01", Packet{Kind: Puback, ID: 1}},
		{"\x50\x04\x00\x01\x10\x00", "\x50\x03\x00\x01\x10", Packet{Kind: Pubrec, ID: 1, Code: api.NoMatch}},
		{"\x62\x03\x00\x01\x00", "\x62\x02\x00\x01", Packet{Kind: Pubrel, ID: 1}},
		{"\x70\x04\x00\x01\x92\x00", "\x70\x03\x00\x01\x92", Packet{Kind: Pubcomp, ID: 1, Code: api.IDNotFound}},
		{"\xe0\x01\x00", "\xe0\x00", Packet{Kind: Disconnect}},
		{"\xe0\x02\x00\x00", "\xe0\x00", Packet{Kind: Disconnect}},
		{"\xe0\x02\x04\x00", "\xe0\x01\x04", Packet{Kind: Disconnect, Code: 4}},
		{"\xf0\x01\x00", "\xf0\x00", Packet{Kind: Auth}},
		{"\xf0\x02\x18\x00", "\xf0\x01\x18", Packet{Kind: Auth, Code: 24}},
	} {
		checkGet(t, x.bytes, x.p, api.OK)
		checkPut(t, x.p, x.put, api.OK)
		checkGet(t, x.put, x.p, api.OK)
	}
}
