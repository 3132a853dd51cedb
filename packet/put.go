package packet

import (
	"strings"

	"aqueduct/api"
	"aqueduct/prop"
	"aqueduct/text"
	"aqueduct/varint"
)

// writer puts the parts of a packet one behind the other, and keeps the first code that one of them has.
type writer struct {
	out  strings.Builder
	code api.Code
}

func (w *writer) add(s string, code api.Code) {
	if w.code == api.OK {
		w.code = code
	}
	w.out.WriteString(s)
}

func (w *writer) refuse(code api.Code) {
	w.add("", code)
}

// flags tells what stands beside the kind in the first byte.
func (w *writer) flags(p Packet) int {
	if p.Kind != Publish {
		return fixedFlags(p.Kind)
	}
	if !canPublish(p) {
		w.refuse(api.Malformed)
	}
	return flag(p.Dup, dupFlag) | p.QoS<<qosPlace | flag(p.Retain, retainFlag)
}

// parts puts what follows the length.
func (w *writer) parts(p Packet) {
	switch p.Kind {
	case Connect:
		w.connect(p)
	case Connack:
		w.number(1, flag(p.Session, 1))
		w.reason(p.Code)
		w.properties(p.Kind, p.Props)
	case Publish:
		w.publish(p)
	case Subscribe:
		w.head(p)
		each(w, p.Subs, w.sub)
	case Unsubscribe:
		w.head(p)
		each(w, p.Filters, w.text)
	case Suback, Unsuback:
		w.head(p)
		each(w, p.Codes, w.reason)
	case Puback, Pubrec, Pubrel, Pubcomp:
		w.id(p.ID)
		fallthrough
	case Disconnect, Auth:
		w.ending(p)
	}
}

func (w *writer) connect(p Packet) {
	w.text(protocolName)
	w.number(1, protocolVersion)
	w.connectFlags(p)
	w.number(2, p.Keep)
	w.properties(p.Kind, p.Props)
	w.text(p.Client)
	if p.HasWill {
		w.properties(ofWill, p.Will.Props)
		w.text(p.Will.Topic)
		w.data(p.Will.Payload)
	}
	if p.HasUser {
		w.text(p.User)
	}
	if p.HasPass {
		w.data(p.Pass)
	}
}

func (w *writer) connectFlags(p Packet) {
	flags := flag(p.Clean, cleanFlag) | flag(p.HasPass, passFlag) | flag(p.HasUser, userFlag)
	if p.HasWill {
		if !isQoS(p.Will.QoS) {
			w.refuse(api.Malformed)
		}
		flags |= willFlag | p.Will.QoS<<willQoSPlace | flag(p.Will.Retain, willRetain)
	}
	w.number(1, flags)
}

func (w *writer) publish(p Packet) {
	w.text(p.Topic)
	if p.QoS > 0 {
		w.id(p.ID)
	}
	w.properties(p.Kind, p.Props)
	w.add(p.Payload, api.OK)
}

// head puts what stands ahead of a list.
func (w *writer) head(p Packet) {
	w.id(p.ID)
	w.properties(p.Kind, p.Props)
}

// ending puts what is left out where it tells nothing.
func (w *writer) ending(p Packet) {
	if p.Code == api.OK && len(p.Props) == 0 {
		return
	}
	w.reason(p.Code)
	if len(p.Props) > 0 {
		w.properties(p.Kind, p.Props)
	}
}

func (w *writer) sub(s Sub) {
	w.text(s.Filter)
	if !isQoS(s.QoS) || !isHandling(s.Handling) {
		w.refuse(api.Malformed)
	}
	w.number(1, s.QoS|flag(s.NoLocal, noLocalFlag)|flag(s.AsPublished, asPublishedFlag)|s.Handling<<handlingPlace)
}

func (w *writer) id(n int) {
	if n < 1 || n > mostID {
		w.refuse(api.Protocol)
	}
	w.number(2, n)
}

func (w *writer) properties(k Kind, l []prop.Property) {
	w.add(prop.Put(l))
	if !allowedAll(k, l) {
		w.refuse(api.Protocol)
	}
}

func (w *writer) reason(c api.Code) {
	w.number(1, int(c))
}

func (w *writer) number(width, n int) {
	w.add(varint.Fixed(width, n))
}

func (w *writer) text(s string) {
	w.add(text.Put(s))
}

func (w *writer) data(s string) {
	w.add(varint.Data(s))
}

// each puts all of a list, which has at least one and at most MaxSubs.
func each[T any](w *writer, l []T, put func(T)) {
	switch {
	case len(l) == 0:
		w.refuse(api.Protocol)
	case len(l) > api.MaxSubs:
		w.refuse(api.TooLarge)
	default:
		for _, x := range l {
			put(x)
		}
	}
}

// flag tells what a bool counts for in a byte of flags.
func flag(on bool, value int) int {
	if on {
		return value
	}
	return 0
}
