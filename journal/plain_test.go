package journal

import (
	"encoding/binary"
	"fmt"
	"math"
	"math/rand/v2"
	"slices"
	"strings"
	"testing"

	"aqueduct/api"
	"aqueduct/disk"
	"aqueduct/fault"
)

// A plain reading of the chapter: what a file has is told from its bytes alone, and what is done with the disk is done with one of the model's own, so that both disks must have the same bytes.

// plainSum divides the text's bits, the first sixteen of which are turned, with sixteen more behind them, by the polynomial; what is left is the check sum.
func plainSum(s string) int {
	left := 0
	for i, b := range []byte(s + "\x00\x00") {
		if i < 2 {
			b = 255 - b
		}
		for mask := 128; mask > 0; mask /= 2 {
			left *= 2
			if int(b)&mask != 0 {
				left++
			}
			if left >= 1<<16 {
				left ^= 1<<16 + 1<<12 + 1<<5 + 1
			}
		}
	}
	return left
}

// plainFrame is the frame of a body that has one.
func plainFrame(body string) string {
	out := binary.BigEndian.AppendUint32(nil, uint32(len(body)))
	out = binary.BigEndian.AppendUint16(out, uint16(plainSum(body)))
	return string(out) + body
}

func plainUnframe(s string, at int) (string, int, api.Code) {
	if at < 0 || at > len(s) {
		return "", 0, api.Unspecified
	}
	rest := []byte(s)[at:]
	if len(rest) >= 4 {
		if n := binary.BigEndian.Uint32(rest); n == 0 || n > api.MaxRecord {
			return "", 0, api.Malformed
		}
	}
	if len(rest) < 6 {
		return "", 0, api.Nothing
	}
	n := int(binary.BigEndian.Uint32(rest))
	if len(rest) < 6+n {
		return "", 0, api.Nothing
	}
	body := string(rest[6 : 6+n])
	if plainSum(body) != int(binary.BigEndian.Uint16(rest[4:])) {
		return "", 0, api.Malformed
	}
	return body, at + 6 + n, api.OK
}

// plainHead is the body of a head.
func plainHead(generation, n uint32) string {
	out := binary.BigEndian.AppendUint32([]byte("AQUEDUCT"), generation)
	return string(binary.BigEndian.AppendUint32(out, n))
}

// fileOf is a new file with these.
func fileOf(generation int, state string, records ...string) string {
	out := plainFrame(plainHead(uint32(generation), uint32(1+len(records)))) + plainFrame("s"+state)
	for _, r := range records {
		out += plainFrame("r" + r)
	}
	return out
}

// plainFile is what a file has; its generation is 0, if it isn't whole.
func plainFile(s string) (generation uint32, state string, records []string) {
	var bodies []string
	for at := 0; ; {
		body, behind, code := plainUnframe(s, at)
		if code != api.OK {
			break
		}
		bodies, at = append(bodies, body), behind
	}
	if len(bodies) == 0 || len(bodies[0]) != 16 || bodies[0][:8] != "AQUEDUCT" {
		return 0, "", nil
	}
	generation = binary.BigEndian.Uint32([]byte(bodies[0][8:]))
	n := uint64(binary.BigEndian.Uint32([]byte(bodies[0][12:])))
	if n < 1 {
		return 0, "", nil
	}
	good := uint64(0)
	for i, body := range bodies[1:] {
		if i == 0 && body[0] != 's' || i > 0 && body[0] != 'r' {
			break
		}
		good++
		if i == 0 {
			state = body[1:]
		} else {
			records = append(records, body[1:])
		}
	}
	if good < n {
		return 0, "", nil
	}
	return generation, state, records
}

// plain is a journal on the model's disk.
type plain struct {
	d          *disk.Disk
	file       int
	generation int64
	broken     bool
}

func plainOpen(d *disk.Disk) (p *plain, state string, records []string, code api.Code) {
	first, code := d.Read(0)
	if code != api.OK {
		return nil, "", nil, code
	}
	second, code := d.Read(1)
	if code != api.OK {
		return nil, "", nil, code
	}
	g0, s0, r0 := plainFile(first)
	g1, s1, r1 := plainFile(second)
	p = &plain{d: d}
	switch {
	case g0 == 0 && g1 == 0:
		p.file = 1 // so that the file 0 is laid
	case g1 > g0:
		p.file, p.generation, state, records = 1, int64(g1), s1, r1
	default:
		p.file, p.generation, state, records = 0, int64(g0), s0, r0
	}
	if code := p.lay(state, records); code != api.OK {
		return nil, "", nil, code
	}
	return p, state, records, api.OK
}

func (p *plain) lay(state string, records []string) api.Code {
	if p.generation == math.MaxInt32 || p.generation > math.MaxInt32 {
		return api.Full
	}
	for _, s := range append([]string{state}, records...) {
		if len("s"+s) > api.MaxRecord {
			return api.TooLarge
		}
	}
	s, to := fileOf(int(p.generation+1), state, records...), 1-p.file
	code := p.d.Clear(to)
	if code == api.OK {
		code = p.d.Append(to, s)
	}
	if code == api.OK {
		code = p.d.Sync(to)
	}
	if code != api.OK {
		p.broken = true
		return code
	}
	p.file, p.generation = to, p.generation+1
	return api.OK
}

func (p *plain) add(body string) api.Code {
	switch {
	case p == nil:
		return api.Unspecified
	case p.broken:
		return api.Nothing
	case len(body) >= api.MaxRecord:
		return api.TooLarge
	}
	code := p.d.Append(p.file, plainFrame("r"+body))
	p.broken = code != api.OK
	return code
}

func (p *plain) sync() api.Code {
	switch {
	case p == nil:
		return api.Unspecified
	case p.broken:
		return api.Nothing
	}
	code := p.d.Sync(p.file)
	p.broken = code != api.OK
	return code
}

func (p *plain) compact(state string) api.Code {
	switch {
	case p == nil:
		return api.Unspecified
	case p.broken:
		return api.Nothing
	}
	return p.lay(state, nil)
}

func (p *plain) gen() int {
	if p == nil {
		return 0
	}
	return int(p.generation)
}

// both are a journal and a plain one, each with its disk; calls are made of both.
type both struct {
	d, twin *disk.Disk
	j       *Journal
	p       *plain
}

func newBoth(limit int) *both {
	return &both{d: disk.New(limit), twin: disk.New(limit)}
}

// open opens anew on both disks; differs is what it told otherwise, empty if there is nothing.
func (b *both) open() (got, want api.Code, differs string) {
	j, state, records, err := Open(b.d)
	p, wantState, wantRecords, want := plainOpen(b.twin)
	got = fault.CodeOf(err)
	if state != wantState || !slices.Equal(records, wantRecords) || (j == nil) != (p == nil) {
		differs = fmt.Sprintf("told %q, %q, not %q, %q", state, records, wantState, wantRecords)
	}
	b.j, b.p = j, p
	return got, want, differs
}

// onDisks does the same to both disks.
func (b *both) onDisks(do func(d *disk.Disk)) {
	do(b.d)
	do(b.twin)
}

// differs tells what is otherwise than the chapter has it, empty if there is nothing.
func (b *both) differs() string {
	if b.j.Gen() != b.p.gen() {
		return fmt.Sprintf("the generation is %d, not %d", b.j.Gen(), b.p.gen())
	}
	if b.d.Off() != b.twin.Off() {
		return fmt.Sprintf("the power is off: %v", b.d.Off())
	}
	for file := range disk.Files {
		got, _ := b.d.Read(file)
		want, _ := b.twin.Read(file)
		if got != want || b.d.Lasts(file) != b.twin.Lasts(file) {
			return fmt.Sprintf("of the file %d %q stands there, of which %d bytes last, not %q, %d", file, got, b.d.Lasts(file), want, b.twin.Lasts(file))
		}
	}
	return ""
}

// maker makes what is called.
type maker struct {
	*rand.Rand
}

func (m maker) text() string {
	return strings.Repeat(string(rune('a'+m.IntN(26))), m.IntN(5)*m.IntN(4))
}

// body makes a state or a record, seldom one that is too long.
func (m maker) body() string {
	if m.IntN(60) == 0 {
		return strings.Repeat("l", api.MaxRecord-1+m.IntN(2))
	}
	return m.text()
}

func (m maker) keep() []int {
	var out []int
	for range m.IntN(4) {
		k := m.IntN(160) - 80
		if m.IntN(8) == 0 {
			k = []int{math.MinInt, math.MaxInt, -1, 0}[m.IntN(4)]
		}
		out = append(out, k)
	}
	return out
}

func (m maker) limit() int {
	return []int{0, 28, 29, 40, 57, 58, 80, 120, 200, 400, 1 << 18, 1 << 20}[m.IntN(12)]
}

// wholeFile makes a file's bytes, which may have all that a file can have.
func (m maker) wholeFile() string {
	generation := []uint32{0, 1, 1, 2, 3, 255, 256, 1<<31 - 3, 1<<31 - 2, 1<<31 - 1, 1 << 31, 1<<32 - 1}[m.IntN(12)]
	frames := m.IntN(4)
	n := frames + m.IntN(8)/6 - m.IntN(8)/6
	s := plainFrame(plainHead(generation, uint32(max(n, 0))))
	for i := range frames {
		mark := "r"
		if (i == 0) != (m.IntN(16) == 0) {
			mark = "s"
		}
		s += plainFrame(mark + m.text())
	}
	switch m.IntN(6) {
	case 0:
		s += m.text()
	case 1:
		s = s[:len(s)-m.IntN(len(s))]
	case 2:
		b := []byte(s)
		b[m.IntN(len(b))] ^= 1 << m.IntN(8)
		s = string(b)
	}
	return s
}

// call makes one that is chosen by chance, and tells what it was and what was answered.
func (b *both) call(m maker) (what string, got, want api.Code, differs string) {
	switch k := m.IntN(32); {
	case k < 5 || b.j == nil && k < 13:
		got, want, differs = b.open()
		return "Open()", got, want, differs
	case k < 15:
		s := m.body()
		return fmt.Sprintf("Add(%.9q)", s), fault.CodeOf(b.j.Add(s)), b.p.add(s), ""
	case k < 19:
		return "Sync()", fault.CodeOf(b.j.Sync()), b.p.sync(), ""
	case k < 23:
		s := m.body()
		return fmt.Sprintf("Compact(%.9q)", s), fault.CodeOf(b.j.Compact(s)), b.p.compact(s), ""
	case k < 26:
		n, keep := m.IntN(7), m.keep()
		b.onDisks(func(d *disk.Disk) { d.Cut(n, keep...) })
		return fmt.Sprintf("Cut(%d, %d)", n, keep), 0, 0, ""
	case k < 27:
		n := m.IntN(7)
		b.onDisks(func(d *disk.Disk) { d.Break(n) })
		return fmt.Sprintf("Break(%d)", n), 0, 0, ""
	case k < 29:
		b.onDisks((*disk.Disk).On)
		return "On()", 0, 0, ""
	default:
		keep := m.keep()
		b.onDisks(func(d *disk.Disk) { d.Crash(keep...) })
		return fmt.Sprintf("Crash(%d)", keep), 0, 0, ""
	}
}

// Two journals side by side, so that what is called of the one is held to change nothing of the other one (P2).
func TestMadeCallsAsTheChapterReads(t *testing.T) {
	m := maker{rand.New(rand.NewPCG(12, 1))}
	seen := map[string]int{}
	for range 3000 {
		journals := []*both{newBoth(m.limit()), newBoth(m.limit())}
		var calls []string
		for range 50 {
			at := m.IntN(2)
			what, got, want, differs := journals[at].call(m)
			calls = append(calls, fmt.Sprintf("%d: %s", at, what))
			if got != want || differs != "" {
				t.Fatalf("%s: the last one is answered by %d, not %d; %s", strings.Join(calls, "; "), got, want, differs)
			}
			for i, b := range journals {
				if s := b.differs(); s != "" {
					t.Fatalf("%s: then of %d %s", strings.Join(calls, "; "), i, s)
				}
			}
			name, _, _ := strings.Cut(what, "(")
			seen[fmt.Sprintf("%s %d", name, want)]++
		}
	}
	for _, kind := range []string{"Open 0", "Open 240", "Open 241", "Add 0", "Add 128", "Add 149", "Add 240", "Add 241", "Add 242",
		"Sync 0", "Sync 128", "Sync 240", "Sync 241", "Sync 242", "Compact 0", "Compact 128", "Compact 149", "Compact 240", "Compact 241", "Compact 242"} {
		if seen[kind] < 50 {
			t.Errorf("%s: only %d", kind, seen[kind])
		}
	}
}

// Files that are made, whole ones and others, in both places.
func TestMadeFilesAsTheChapterReads(t *testing.T) {
	m := maker{rand.New(rand.NewPCG(12, 2))}
	seen := map[string]int{}
	for range 20000 {
		b := newBoth(1000)
		files := [2]string{m.wholeFile(), m.wholeFile()}
		for file, s := range files {
			b.onDisks(func(d *disk.Disk) {
				d.Append(file, s)
				d.Sync(file)
			})
		}
		for range 3 {
			got, want, differs := b.open()
			differs += b.differs()
			if got != want || differs != "" {
				t.Fatalf("of %q Open is answered by %d, not %d; %s", files, got, want, differs)
			}
		}
		g0, _, r0 := plainFile(files[0])
		g1, _, _ := plainFile(files[1])
		seen[fmt.Sprintf("whole: %v, %v; the same generation: %v; the first one is greater: %v", g0 > 0, g1 > 0, g0 == g1, g0 > g1)]++
		seen[fmt.Sprintf("records: %d", len(r0))]++
	}
	for kind, n := range seen {
		if n < 50 {
			t.Errorf("%s: only %d", kind, n)
		}
	}
	if len(seen) != 6+3 {
		t.Errorf("only these were met: %v", seen)
	}
}

// All rows of a few calls, one behind the other, on a disk that is small.
func TestAllShortRowsAsTheChapterReads(t *testing.T) {
	calls := []func(b *both) (got, want api.Code, differs string){
		(*both).open,
		func(b *both) (api.Code, api.Code, string) { return fault.CodeOf(b.j.Add("ab")), b.p.add("ab"), "" },
		func(b *both) (api.Code, api.Code, string) { return fault.CodeOf(b.j.Sync()), b.p.sync(), "" },
		func(b *both) (api.Code, api.Code, string) {
			return fault.CodeOf(b.j.Compact("c")), b.p.compact("c"), ""
		},
		asking(func(d *disk.Disk) { d.Cut(1, 3, -3) }),
		asking(func(d *disk.Disk) { d.Cut(2, 25, -2) }),
		asking(func(d *disk.Disk) { d.Cut(3, -1, -1) }),
		asking(func(d *disk.Disk) { d.Break(2) }),
		asking(func(d *disk.Disk) { d.Crash(4, -4) }),
		asking((*disk.Disk).On),
	}
	const length = 5
	rows := int(math.Pow(float64(len(calls)), length))
	for row := range rows {
		b, rest := newBoth(75), row
		b.open()
		for range length {
			got, want, differs := calls[rest%len(calls)](b)
			rest /= len(calls)
			if differs += b.differs(); got != want || differs != "" {
				t.Fatalf("in the row %d: %d, not %d; %s", row, got, want, differs)
			}
		}
	}
}

func asking(do func(d *disk.Disk)) func(b *both) (got, want api.Code, differs string) {
	return func(b *both) (api.Code, api.Code, string) {
		b.onDisks(do)
		return 0, 0, ""
	}
}
