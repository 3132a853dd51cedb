package packet

import (
	"strings"

	"aqueduct/api"
	"aqueduct/prop"
	"aqueduct/text"
	"aqueduct/varint"
)

// unreadable is what a reader panics with at the first part that can't be read.
type unreadable struct {
	code api.Code
}

// leave ends the reading of a packet.
func leave(code api.Code) {
	panic(unreadable{code})
}

// caught tells the packet that a reading makes, or the code by which it left.
func caught(read func() Packet) (p Packet, code api.Code) {
	defer func() {
		met := recover()
		if met == nil {
			return
		}
		// No call may panic, so that what isn't a reader's own stays in here too.
		p, code = Packet{}, api.Unspecified
		if u, ok := met.(unreadable); ok {
			code = u.code
		}
	}()
	return read(), api.OK
}

// begin tells what a packet's first byte tells of it, and whether there are such packets.
func begin(b byte) (Packet, bool) {
	kind, flags := Kind(b>>4), int(b&15)
	if kind != Publish {
		return Packet{Kind: kind}, isKind(kind) && flags == fixedFlags(kind)
	}
	p := Packet{Kind: kind, Dup: flags&dupFlag != 0, QoS: flags >> qosPlace & twoBits, Retain: flags&retainFlag != 0}
	return p, canPublish(p)
}

// lengthCode tells what speaks against a length with so many bytes behind it.
func lengthCode(length, behind int) api.Code {
	switch {
	case length > api.MaxPacket:
		return api.TooLarge
	case behind < length:
		return api.Nothing
	case behind > length:
		return api.Malformed
	default:
		return api.OK
	}
}

// reader goes through the parts of a packet, which ends where s does.
type reader struct {
	s  string
	at int
}

func (r *reader) ended() bool {
	return r.at == len(r.s)
}

// move goes on to a place behind a part, if the layer that read it has no code.
func (r *reader) move(at int, code api.Code) {
	switch code {
	case api.OK:
		r.at = at
	case api.Nothing:
		// All bytes that are to come are there, so what isn't whole never will be.
		leave(api.Malformed)
	default:
		leave(code)
	}
}

// whole tells the packet of which p has what its first byte tells.
func (r *reader) whole(p Packet) Packet {
	r.parts(&p)
	if !r.ended() {
		leave(api.Malformed)
	}
	return p
}

// parts reads what follows the length.
func (r *reader) parts(p *Packet) {
	switch p.Kind {
	case Connect:
		r.connect(p)
	case Connack:
		p.Session = r.session()
		p.Code = r.reason()
		p.Props = r.properties(p.Kind)
	case Publish:
		r.publish(p)
	case Subscribe:
		r.head(p)
		p.Subs = list(r, r.sub)
	case Unsubscribe:
		r.head(p)
		p.Filters = list(r, r.text)
	case Suback, Unsuback:
		r.head(p)
		p.Codes = list(r, r.reason)
	case Puback, Pubrec, Pubrel, Pubcomp:
		p.ID = r.id()
		fallthrough
	case Disconnect, Auth:
		r.ending(p)
	}
}

func (r *reader) connect(p *Packet) {
	if r.text() != protocolName {
		leave(api.Malformed)
	}
	if r.number(1) != protocolVersion {
		leave(api.Version)
	}
	r.connectFlags(p)
	p.Keep = r.number(2)
	p.Props = r.properties(p.Kind)
	p.Client = r.text()
	if p.HasWill {
		p.Will.Props = r.properties(ofWill)
		p.Will.Topic = r.text()
		p.Will.Payload = r.data()
	}
	if p.HasUser {
		p.User = r.text()
	}
	if p.HasPass {
		p.Pass = r.data()
	}
}

func (r *reader) connectFlags(p *Packet) {
	flags := r.number(1)
	p.Clean = flags&cleanFlag != 0
	p.HasWill = flags&willFlag != 0
	p.Will.QoS = flags >> willQoSPlace & twoBits
	p.Will.Retain = flags&willRetain != 0
	p.HasPass = flags&passFlag != 0
	p.HasUser = flags&userFlag != 0
	willToldOf := p.Will.QoS != 0 || p.Will.Retain
	if flags&noFlag != 0 || !isQoS(p.Will.QoS) || willToldOf && !p.HasWill {
		leave(api.Malformed)
	}
}

func (r *reader) publish(p *Packet) {
	p.Topic = r.text()
	if p.QoS > 0 {
		p.ID = r.id()
	}
	p.Props = r.properties(p.Kind)
	// An answer shares no memory with s, so that what keeps it doesn't keep all of s.
	p.Payload = strings.Clone(r.s[r.at:])
	r.at = len(r.s)
}

// head reads what stands ahead of a list.
func (r *reader) head(p *Packet) {
	p.ID = r.id()
	p.Props = r.properties(p.Kind)
}

// ending reads what may be left out.
func (r *reader) ending(p *Packet) {
	if !r.ended() {
		p.Code = r.reason()
	}
	if !r.ended() {
		p.Props = r.properties(p.Kind)
	}
}

func (r *reader) session() bool {
	n := r.number(1)
	if n > 1 {
		leave(api.Malformed)
	}
	return n == 1
}

func (r *reader) sub() Sub {
	filter := r.text()
	b := r.number(1)
	s := Sub{Filter: filter, QoS: b & twoBits, NoLocal: b&noLocalFlag != 0, AsPublished: b&asPublishedFlag != 0, Handling: b >> handlingPlace & twoBits}
	if !isQoS(s.QoS) || b&noSubFlags != 0 {
		leave(api.Malformed)
	}
	if !isHandling(s.Handling) {
		leave(api.Protocol)
	}
	return s
}

func (r *reader) id() int {
	n := r.number(2)
	if n == 0 {
		leave(api.Protocol)
	}
	return n
}

func (r *reader) properties(k Kind) []prop.Property {
	l, at, code := prop.Get(r.s, r.at)
	r.move(at, code)
	if !allowedAll(k, l) {
		leave(api.Protocol)
	}
	return l
}

func (r *reader) reason() api.Code {
	return api.Code(r.number(1))
}

func (r *reader) number(width int) int {
	n, at, code := varint.GetFixed(r.s, r.at, width)
	r.move(at, code)
	return n
}

func (r *reader) text() string {
	s, at, code := text.Get(r.s, r.at)
	r.move(at, code)
	return s
}

func (r *reader) data() string {
	s, at, code := varint.GetData(r.s, r.at)
	r.move(at, code)
	return s
}

// list reads all that is left, of which there is at least one and at most MaxSubs.
func list[T any](r *reader, one func() T) []T {
	var l []T
	for !r.ended() {
		if len(l) == api.MaxSubs {
			leave(api.TooLarge)
		}
		l = append(l, one())
	}
	if len(l) == 0 {
		leave(api.Protocol)
	}
	return l
}
