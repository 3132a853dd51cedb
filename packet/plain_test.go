package packet

import (
	"fmt"
	"math"
	"math/rand/v2"
	"reflect"
	"slices"
	"strings"
	"testing"
	"unicode/utf8"

	"aqueduct/api"
	"aqueduct/prop"
)

// A plain reading of the chapter, which has nothing of this package but its types. Properties go by layer 4's calls, as the chapter says.

const firstKind, lastKind = Connect, Auth

// strangeInts are ints that are no kind, no QoS, no Handling, no identifier and no number that can be told.
var strangeInts = []int{math.MinInt, math.MinInt + 1, math.MinInt32, -65536, -256, -16, -4, -3, -2, -1, 1 << 16, 1<<16 + 1, 1<<32 + 1, math.MaxInt - 1, math.MaxInt}

// long is a text of as many bytes as a text may have, tooLong one of one more, noTextToo is none.
var (
	long      = strings.Repeat("a", api.MaxText)
	tooLong   = strings.Repeat("a", api.MaxText+1)
	noTextToo = "\xff" + tooLong
)

var user = prop.Property{ID: 38, S: "k", T: "v"}

// userBytes are the bytes of user alone, with the length ahead.
const userBytes = "\x07\x26\x00\x01k\x00\x01v"

// plainAllowed are the identifiers that the chapter lists; of 0 those of a will.
var plainAllowed = map[Kind][]int{
	0:           {1, 2, 3, 8, 9, 24, 38},
	Connect:     {17, 21, 22, 23, 25, 33, 34, 38, 39},
	Connack:     {17, 18, 19, 21, 22, 26, 28, 31, 33, 34, 36, 37, 38, 39, 40, 41, 42},
	Publish:     {1, 2, 3, 8, 9, 11, 35, 38},
	Puback:      {31, 38},
	Pubrec:      {31, 38},
	Pubrel:      {31, 38},
	Pubcomp:     {31, 38},
	Subscribe:   {11, 38},
	Suback:      {31, 38},
	Unsubscribe: {38},
	Unsuback:    {31, 38},
	Pingreq:     {},
	Pingresp:    {},
	Disconnect:  {17, 28, 31, 38},
	Auth:        {21, 22, 31, 38},
}

// steps are the parts that follow the length, a word each; what has a mark of asking may be missing.
var steps = map[Kind]string{
	Connect:     "name version flags keep props client willprops willtopic willpayload user pass",
	Connack:     "session code props",
	Publish:     "topic publishid props payload",
	Puback:      "id code? props?",
	Pubrec:      "id code? props?",
	Pubrel:      "id code? props?",
	Pubcomp:     "id code? props?",
	Subscribe:   "id props subs",
	Suback:      "id props codes",
	Unsubscribe: "id props filters",
	Unsuback:    "id props codes",
	Pingreq:     "",
	Pingresp:    "",
	Disconnect:  "code? props?",
	Auth:        "code? props?",
}

func isText(s string) bool {
	return utf8.ValidString(s) && !strings.Contains(s, "\x00")
}

func bit(on bool, n int) int {
	if on {
		return n
	}
	return 0
}

// plainLength tells the bytes of a number from 0 to MaxVar.
func plainLength(n int) string {
	var out []byte
	for n >= 128 {
		out = append(out, byte(n%128+128))
		n /= 128
	}
	return string(append(out, byte(n)))
}

func plainTwo(n int) string {
	return string([]byte{byte(n / 256), byte(n)})
}

func plainByte(n int) string {
	return string([]byte{byte(n)})
}

// framed puts a first byte and the length ahead of what follows.
func framed(first byte, body string) string {
	return plainByte(int(first)) + plainLength(len(body)) + body
}

// plainFlags tells the flags of the first byte.
func plainFlags(p Packet) (int, api.Code) {
	switch p.Kind {
	case Publish:
		if p.QoS < 0 || p.QoS > 2 || p.Dup && p.QoS == 0 {
			return 0, api.Malformed
		}
		return bit(p.Dup, 8) + 2*p.QoS + bit(p.Retain, 1), api.OK
	case Pubrel, Subscribe, Unsubscribe:
		return 2, api.OK
	}
	return 0, api.OK
}

func firstByte(p Packet) byte {
	flags, _ := plainFlags(p)
	return byte(16*int(p.Kind) + flags)
}

// Putting.

func plainPutData(s string) (string, api.Code) {
	if len(s) > 65535 {
		return "", api.TooLarge
	}
	return plainTwo(len(s)) + s, api.OK
}

func plainPutText(s string) (string, api.Code) {
	if !isText(s) {
		return "", api.Malformed
	}
	return plainPutData(s)
}

func plainPutProps(k Kind, l []prop.Property) (string, api.Code) {
	s, code := prop.Put(l)
	if code != api.OK {
		return "", code
	}
	for _, p := range l {
		if !slices.Contains(plainAllowed[k], p.ID) {
			return "", api.Protocol
		}
	}
	return s, api.OK
}

func plainPutID(n int) (string, api.Code) {
	if n < 1 || n > 65535 {
		return "", api.Protocol
	}
	return plainTwo(n), api.OK
}

func plainPutSub(s Sub) (string, api.Code) {
	out, code := plainPutText(s.Filter)
	if code != api.OK {
		return "", code
	}
	if s.QoS < 0 || s.QoS > 2 || s.Handling < 0 || s.Handling > 2 {
		return "", api.Malformed
	}
	return out + plainByte(s.QoS+bit(s.NoLocal, 4)+bit(s.AsPublished, 8)+16*s.Handling), api.OK
}

// plainPutList tells the bytes of so many, each told by one.
func plainPutList(n int, one func(i int) (string, api.Code)) (string, api.Code) {
	if n == 0 {
		return "", api.Protocol
	}
	if n > 64 {
		return "", api.TooLarge
	}
	all := ""
	for i := range n {
		s, code := one(i)
		if code != api.OK {
			return "", code
		}
		all += s
	}
	return all, api.OK
}

func plainPutFlags(p Packet) (string, api.Code) {
	flags := bit(p.Clean, 2) + bit(p.HasPass, 64) + bit(p.HasUser, 128)
	if p.HasWill {
		if p.Will.QoS < 0 || p.Will.QoS > 2 {
			return "", api.Malformed
		}
		flags += 4 + 8*p.Will.QoS + bit(p.Will.Retain, 32)
	}
	return plainByte(flags), api.OK
}

// plainPutStep tells the bytes of one part.
func plainPutStep(step string, p Packet) (string, api.Code) {
	none := func() (string, api.Code) { return "", api.OK }
	switch step {
	case "name":
		return "\x00\x04MQTT", api.OK
	case "version":
		return "\x05", api.OK
	case "flags":
		return plainPutFlags(p)
	case "keep":
		if p.Keep < 0 || p.Keep > 65535 {
			return "", api.Malformed
		}
		return plainTwo(p.Keep), api.OK
	case "client":
		return plainPutText(p.Client)
	case "user":
		if p.HasUser {
			return plainPutText(p.User)
		}
		return none()
	case "pass":
		if p.HasPass {
			return plainPutData(p.Pass)
		}
		return none()
	case "willprops", "willtopic", "willpayload":
		if !p.HasWill {
			return none()
		}
		switch step {
		case "willprops":
			return plainPutProps(0, p.Will.Props)
		case "willtopic":
			return plainPutText(p.Will.Topic)
		}
		return plainPutData(p.Will.Payload)
	case "session":
		return plainByte(bit(p.Session, 1)), api.OK
	case "code":
		return plainByte(int(p.Code)), api.OK
	case "code?":
		if p.Code == 0 && len(p.Props) == 0 {
			return none()
		}
		return plainByte(int(p.Code)), api.OK
	case "props":
		return plainPutProps(p.Kind, p.Props)
	case "props?":
		if len(p.Props) == 0 {
			return none()
		}
		return plainPutProps(p.Kind, p.Props)
	case "id":
		return plainPutID(p.ID)
	case "publishid":
		if p.QoS > 0 {
			return plainPutID(p.ID)
		}
		return none()
	case "topic":
		return plainPutText(p.Topic)
	case "payload":
		return p.Payload, api.OK
	case "subs":
		return plainPutList(len(p.Subs), func(i int) (string, api.Code) { return plainPutSub(p.Subs[i]) })
	case "filters":
		return plainPutList(len(p.Filters), func(i int) (string, api.Code) { return plainPutText(p.Filters[i]) })
	case "codes":
		return plainPutList(len(p.Codes), func(i int) (string, api.Code) { return plainByte(int(p.Codes[i])), api.OK })
	}
	panic("no such step: " + step)
}

// plainPut tells what P5.2 asks for.
func plainPut(p Packet) (string, api.Code) {
	if _, ok := steps[p.Kind]; !ok {
		return "", api.Malformed
	}
	if _, code := plainFlags(p); code != api.OK {
		return "", code
	}
	body := ""
	for _, step := range strings.Fields(steps[p.Kind]) {
		s, code := plainPutStep(step, p)
		if code != api.OK {
			return "", code
		}
		body += s
	}
	if len(body) > 65536 {
		return "", api.TooLarge
	}
	return framed(firstByte(p), body), api.OK
}

// Getting: each tells what is left behind the part.

func plainGetData(s string) (string, string, api.Code) {
	if len(s) < 2 || len(s)-2 < int(s[0])*256+int(s[1]) {
		return "", "", api.Malformed
	}
	end := 2 + int(s[0])*256 + int(s[1])
	return s[2:end], s[end:], api.OK
}

func plainGetText(s string) (string, string, api.Code) {
	data, rest, code := plainGetData(s)
	if code == api.OK && !isText(data) {
		code = api.Malformed
	}
	return data, rest, code
}

func plainGetByte(s string) (int, string, api.Code) {
	if s == "" {
		return 0, "", api.Malformed
	}
	return int(s[0]), s[1:], api.OK
}

func plainGetTwo(s string) (int, string, api.Code) {
	if len(s) < 2 {
		return 0, "", api.Malformed
	}
	return int(s[0])*256 + int(s[1]), s[2:], api.OK
}

func plainGetID(s string) (int, string, api.Code) {
	n, rest, code := plainGetTwo(s)
	if code == api.OK && n == 0 {
		code = api.Protocol
	}
	return n, rest, code
}

func plainGetProps(k Kind, s string) ([]prop.Property, string, api.Code) {
	l, at, code := prop.Get(s, 0)
	if code == api.Nothing {
		code = api.Malformed
	}
	if code != api.OK {
		return nil, "", code
	}
	for _, p := range l {
		if !slices.Contains(plainAllowed[k], p.ID) {
			return nil, "", api.Protocol
		}
	}
	return l, s[at:], api.OK
}

func plainGetSub(s string) (Sub, string, api.Code) {
	filter, rest, code := plainGetText(s)
	if code != api.OK {
		return Sub{}, "", code
	}
	b, rest, code := plainGetByte(rest)
	if code != api.OK || b%4 == 3 || b >= 64 {
		return Sub{}, "", api.Malformed
	}
	if b/16 == 3 {
		return Sub{}, "", api.Protocol
	}
	return Sub{Filter: filter, QoS: b % 4, NoLocal: b/4%2 == 1, AsPublished: b/8%2 == 1, Handling: b / 16}, rest, api.OK
}

func plainGetList[T any](s string, one func(s string) (T, string, api.Code)) ([]T, string, api.Code) {
	var l []T
	for s != "" {
		if len(l) == 64 {
			return nil, "", api.TooLarge
		}
		x, rest, code := one(s)
		if code != api.OK {
			return nil, "", code
		}
		l = append(l, x)
		s = rest
	}
	if l == nil {
		return nil, "", api.Protocol
	}
	return l, "", api.OK
}

func plainGetFlags(p *Packet, s string) (string, api.Code) {
	b, rest, code := plainGetByte(s)
	if code != api.OK {
		return "", code
	}
	p.Clean, p.HasWill, p.Will.QoS, p.Will.Retain = b/2%2 == 1, b/4%2 == 1, b/8%4, b/32%2 == 1
	p.HasPass, p.HasUser = b/64%2 == 1, b/128 == 1
	if b%2 == 1 || p.Will.QoS == 3 || !p.HasWill && (p.Will.QoS > 0 || p.Will.Retain) {
		return "", api.Malformed
	}
	return rest, api.OK
}

// plainGetStep reads one part, and tells what is left.
func plainGetStep(step string, p *Packet, s string) (string, api.Code) {
	var code api.Code
	n := 0
	switch step {
	case "name":
		var name string
		if name, s, code = plainGetText(s); code == api.OK && name != "MQTT" {
			code = api.Malformed
		}
	case "version":
		if n, s, code = plainGetByte(s); code == api.OK && n != 5 {
			code = api.Version
		}
	case "flags":
		s, code = plainGetFlags(p, s)
	case "keep":
		p.Keep, s, code = plainGetTwo(s)
	case "client":
		p.Client, s, code = plainGetText(s)
	case "user":
		if p.HasUser {
			p.User, s, code = plainGetText(s)
		}
	case "pass":
		if p.HasPass {
			p.Pass, s, code = plainGetData(s)
		}
	case "willprops":
		if p.HasWill {
			p.Will.Props, s, code = plainGetProps(0, s)
		}
	case "willtopic":
		if p.HasWill {
			p.Will.Topic, s, code = plainGetText(s)
		}
	case "willpayload":
		if p.HasWill {
			p.Will.Payload, s, code = plainGetData(s)
		}
	case "session":
		if n, s, code = plainGetByte(s); code == api.OK && n > 1 {
			code = api.Malformed
		}
		p.Session = n == 1
	case "code":
		n, s, code = plainGetByte(s)
		p.Code = api.Code(n)
	case "code?", "props?":
		if s != "" {
			return plainGetStep(strings.TrimSuffix(step, "?"), p, s)
		}
	case "props":
		p.Props, s, code = plainGetProps(p.Kind, s)
	case "id":
		p.ID, s, code = plainGetID(s)
	case "publishid":
		if p.QoS > 0 {
			p.ID, s, code = plainGetID(s)
		}
	case "topic":
		p.Topic, s, code = plainGetText(s)
	case "payload":
		p.Payload, s = s, ""
	case "subs":
		p.Subs, s, code = plainGetList(s, plainGetSub)
	case "filters":
		p.Filters, s, code = plainGetList(s, plainGetText)
	case "codes":
		p.Codes, s, code = plainGetList(s, func(s string) (api.Code, string, api.Code) { return api.Code(s[0]), s[1:], api.OK })
	default:
		panic("no such step: " + step)
	}
	return s, code
}

// plainFrame tells what the first byte tells, what follows the length, and the code ahead of the parts.
func plainFrame(s string) (Packet, string, api.Code) {
	if s == "" {
		return Packet{}, "", api.Nothing
	}
	p := Packet{Kind: Kind(s[0] / 16)}
	if p.Kind == Publish {
		p.Dup, p.QoS, p.Retain = s[0]/8%2 == 1, int(s[0]/2%4), s[0]%2 == 1
	}
	if _, ok := steps[p.Kind]; !ok || firstByte(p) != s[0] {
		return Packet{}, "", api.Malformed
	}
	n, size := 0, 0
	for {
		if size == 4 {
			return Packet{}, "", api.Malformed
		}
		if len(s) == 1+size {
			return Packet{}, "", api.Nothing
		}
		b := s[1+size]
		n += int(b%128) << (7 * size)
		size++
		if b < 128 {
			break
		}
	}
	body := s[1+size:]
	switch {
	case plainLength(n) != s[1:1+size]:
		return Packet{}, "", api.Malformed
	case n > 65536:
		return Packet{}, "", api.TooLarge
	case len(body) < n:
		return Packet{}, "", api.Nothing
	case len(body) > n:
		return Packet{}, "", api.Malformed
	}
	return p, body, api.OK
}

// plainGet tells what P5.3 asks for.
func plainGet(s string) (Packet, api.Code) {
	p, body, code := plainFrame(s)
	if code != api.OK {
		return Packet{}, code
	}
	for _, step := range strings.Fields(steps[p.Kind]) {
		body, code = plainGetStep(step, &p, body)
		if code != api.OK {
			return Packet{}, code
		}
	}
	if body != "" {
		return Packet{}, api.Malformed
	}
	return p, api.OK
}

// What is held against it.

// leveled is a packet whose lists are nil where they are empty, for that makes no difference.
func leveled(p Packet) Packet {
	for _, l := range []*[]prop.Property{&p.Props, &p.Will.Props} {
		if len(*l) == 0 {
			*l = nil
		}
	}
	if len(p.Codes) == 0 {
		p.Codes = nil
	}
	if len(p.Subs) == 0 {
		p.Subs = nil
	}
	if len(p.Filters) == 0 {
		p.Filters = nil
	}
	return p
}

func same(p, q Packet) bool {
	return reflect.DeepEqual(leveled(p), leveled(q))
}

// short is what of s a fault's telling has room for.
func short(s string) string {
	return s[:min(len(s), 48)]
}

// told is what of a packet a fault's telling has room for: the fields that aren't zero, of each not too much.
func told(p Packet) string {
	var out []string
	v := reflect.ValueOf(p)
	for i := range v.NumField() {
		if f := v.Field(i); !f.IsZero() {
			out = append(out, v.Type().Field(i).Name+" "+short(fmt.Sprintf("%+v", f)))
		}
	}
	return "{" + strings.Join(out, ", ") + "}"
}

func checkPut(t *testing.T, p Packet, want string, code api.Code) {
	t.Helper()
	if got, gotCode := Put(p); got != want || gotCode != code {
		t.Errorf("Put of %s = %d bytes (%x), %d, want %d bytes (%x), %d", told(p), len(got), short(got), gotCode, len(want), short(want), code)
	}
}

func checkGet(t *testing.T, s string, want Packet, code api.Code) {
	t.Helper()
	if got, gotCode := Get(s); !same(got, want) || gotCode != code {
		t.Errorf("Get of %d bytes (%x) = %s, %d, want %s, %d", len(s), short(s), told(got), gotCode, told(want), code)
	}
}

// checkBoth holds that a packet has these bytes, and that it is read out of them.
func checkBoth(t *testing.T, p Packet, bytes string) {
	t.Helper()
	checkPut(t, p, bytes, api.OK)
	checkGet(t, bytes, p, api.OK)
}

func checkPutRefused(t *testing.T, p Packet, code api.Code) {
	t.Helper()
	checkPut(t, p, "", code)
}

func checkGetRefused(t *testing.T, s string, code api.Code) {
	t.Helper()
	checkGet(t, s, Packet{}, code)
}

// checkPlainPut holds Put against the plain reading, and Get of what it gives.
func checkPlainPut(t *testing.T, p Packet) api.Code {
	t.Helper()
	want, code := plainPut(p)
	checkPut(t, p, want, code)
	if code == api.OK {
		checkGet(t, want, bare(p), api.OK)
	}
	return code
}

// checkPlainGet holds Get against the plain reading.
func checkPlainGet(t *testing.T, s string) api.Code {
	t.Helper()
	want, code := plainGet(s)
	checkGet(t, s, want, code)
	return code
}

func checkMet(t *testing.T, met map[api.Code]int, least int, codes ...api.Code) {
	t.Helper()
	for _, code := range codes {
		if met[code] < least {
			t.Errorf("the code %d was met %d times, not %d", code, met[code], least)
		}
	}
}

// fields are those that packets of a kind have.
var fields = map[Kind]string{
	Connect:     "Client Clean Keep Props HasWill Will HasUser User HasPass Pass",
	Connack:     "Session Code Props",
	Publish:     "Dup QoS Retain Topic ID Props Payload",
	Puback:      "ID Code Props",
	Pubrec:      "ID Code Props",
	Pubrel:      "ID Code Props",
	Pubcomp:     "ID Code Props",
	Subscribe:   "ID Props Subs",
	Suback:      "ID Props Codes",
	Unsubscribe: "ID Props Filters",
	Unsuback:    "ID Props Codes",
	Pingreq:     "",
	Pingresp:    "",
	Disconnect:  "Code Props",
	Auth:        "Code Props",
}

// mixed has of p what packets of its kind have, and all else of other.
func mixed(p, other Packet) Packet {
	out := other
	from, to := reflect.ValueOf(p), reflect.ValueOf(&out).Elem()
	to.FieldByName("Kind").Set(from.FieldByName("Kind"))
	for _, name := range strings.Fields(fields[p.Kind]) {
		to.FieldByName(name).Set(from.FieldByName(name))
	}
	if p.Kind == Connect && !p.HasWill {
		out.Will = other.Will
	}
	if p.Kind == Connect && !p.HasUser {
		out.User = other.User
	}
	if p.Kind == Connect && !p.HasPass {
		out.Pass = other.Pass
	}
	if p.Kind == Publish && p.QoS == 0 {
		out.ID = other.ID
	}
	return out
}

// bare is a packet with nothing but what its kind has.
func bare(p Packet) Packet {
	out := mixed(p, Packet{})
	out.Props, out.Will.Props = bareProps(out.Props), bareProps(out.Will.Props)
	return out
}

func bareProps(l []prop.Property) []prop.Property {
	out := slices.Clone(l)
	for i, p := range out {
		switch prop.KindOf(p.ID) {
		case prop.Byte, prop.Two, prop.Four, prop.Var:
			out[i].S, out[i].T = "", ""
		case prop.Data, prop.Text:
			out[i].N, out[i].T = 0, ""
		default:
			out[i].N = 0
		}
	}
	return out
}

// Packets made by chance.

// maker makes packets, of which now and then, as often as bad tells, a part is wrong.
type maker struct {
	*rand.Rand
	bad int
}

func pick[T any](m maker, l ...T) T {
	return l[m.IntN(len(l))]
}

func (m maker) wrong() bool {
	return m.bad > 0 && m.IntN(m.bad) == 0
}

func (m maker) yes() bool {
	return m.IntN(2) == 0
}

func (m maker) text() string {
	if m.wrong() {
		return pick(m, "\x00", "\xff", "a\xc3", tooLong, noTextToo)
	}
	return pick(m, "", "a", "a/b", "é€𝄞", "+/#")
}

func (m maker) data() string {
	if m.wrong() {
		return tooLong
	}
	return pick(m, "", "x", "\x00", "\xff\xfe", "xyz")
}

func (m maker) number(most int) int {
	if m.wrong() {
		return pick(m, append(slices.Clone(strangeInts), most+1)...)
	}
	return pick(m, 0, 1, most-1, most, m.IntN(most+1))
}

func (m maker) property(k Kind) prop.Property {
	id := pick(m, plainAllowed[k]...)
	if m.wrong() {
		id = m.IntN(45)
	}
	most := map[prop.Kind]int{prop.Byte: 255, prop.Two: 65535, prop.Four: 1<<32 - 1, prop.Var: api.MaxVar}[prop.KindOf(id)]
	p := prop.Property{ID: id, S: m.text(), T: m.text()}
	if most > 0 {
		p.N = m.number(most)
	}
	return p
}

func (m maker) props(k Kind) []prop.Property {
	var out []prop.Property
	if len(plainAllowed[k]) == 0 {
		return nil
	}
	for range m.IntN(4) {
		p := m.property(k)
		one := func(q prop.Property) bool { return q.ID == p.ID }
		if p.ID == 38 || m.wrong() || !slices.ContainsFunc(out, one) {
			out = append(out, p)
		}
	}
	if m.IntN(4) == 0 && m.wrong() {
		return slices.Repeat([]prop.Property{user}, pick(m, 64, 65))
	}
	return out
}

func (m maker) count() int {
	if m.wrong() {
		return pick(m, 0, 65, 66)
	}
	return pick(m, 1, 2, 3, 3, 64)
}

func (m maker) subs() []Sub {
	out := make([]Sub, m.count())
	for i := range out {
		out[i] = Sub{Filter: "f", QoS: 1}
		if i < 3 {
			out[i] = Sub{Filter: m.text(), QoS: m.number(2), NoLocal: m.yes(), AsPublished: m.yes(), Handling: m.number(2)}
		}
	}
	return out
}

// packet makes one of a kind, with no field that its kind doesn't have.
func (m maker) packet(k Kind) Packet {
	p := Packet{Kind: k, Dup: m.yes(), Retain: m.yes(), QoS: m.number(2), ID: 1 + m.number(65534), Topic: m.text(), Payload: m.data(), Code: api.Code(m.IntN(256)), Props: m.props(k)}
	if p.QoS == 0 && !m.wrong() {
		p.Dup = false
	}
	if m.wrong() {
		p.ID = 0
	}
	if m.yes() {
		p.Code = api.OK
	}
	p.Client, p.Clean, p.Keep, p.Session = m.text(), m.yes(), m.number(65535), m.yes()
	p.HasWill, p.HasUser, p.HasPass, p.User, p.Pass = m.yes(), m.yes(), m.yes(), m.text(), m.data()
	p.Will = Will{Topic: m.text(), Payload: m.data(), QoS: m.number(2), Retain: m.yes(), Props: m.props(0)}
	p.Subs = m.subs()
	p.Filters = make([]string, m.count())
	for i := range p.Filters[:min(3, len(p.Filters))] {
		p.Filters[i] = m.text()
	}
	p.Codes = make([]api.Code, m.count())
	for i := range p.Codes {
		p.Codes[i] = api.Code(m.IntN(256))
	}
	return mixed(p, Packet{})
}

func newMaker(seed uint64, bad int) maker {
	return maker{rand.New(rand.NewPCG(5, seed)), bad}
}
