package disk

import (
	"fmt"
	"math"
	"math/rand/v2"
	"slices"
	"strings"
	"testing"

	"aqueduct/api"
)

// A plain reading of the chapter: changes are numbered from the first one on, and what is asked for is asked of numbers.

type plain struct {
	limit   int
	off     bool
	all     [Files]string
	lasting [Files]string // beginnings of all
	changes uint64        // how many there were
	cut     uint64        // the change at which the power fails; 0, if there is none
	keep    []int
	full    uint64 // the change from which on the disk is full; 0, if there is none
}

func newPlain(limit int) *plain {
	if limit < 0 {
		limit = 0
	}
	if limit > api.MaxDisk {
		limit = api.MaxDisk
	}
	return &plain{limit: limit}
}

// refuses tells by which code a call is refused that lays down s; OK, if it isn't.
func (p *plain) refuses(file int, s string) api.Code {
	if p.off {
		return api.Power
	}
	if file != 0 && file != 1 {
		return api.Nothing
	}
	if len(p.all[0]+p.all[1]+s) > p.limit {
		return api.Full
	}
	return api.OK
}

// befalls numbers the next change, and tells by which code it is answered.
func (p *plain) befalls() api.Code {
	p.changes++
	if p.cut == p.changes {
		return api.Power
	}
	if p.full > 0 && p.full <= p.changes {
		return api.Full
	}
	return api.OK
}

func (p *plain) lose(keep []int) {
	for file, number := range append(slices.Clone(keep), 0, 0)[:Files] {
		loose := strings.TrimPrefix(p.all[file], p.lasting[file])
		p.all[file] = p.lasting[file] + keptOf(number, loose)
		p.lasting[file] = p.all[file]
	}
}

func (p *plain) fail() {
	p.lose(p.keep)
	p.off = true
}

func (p *plain) append(file int, s string) api.Code {
	if code := p.refuses(file, s); code != api.OK || s == "" {
		return code
	}
	code := p.befalls()
	if code != api.Full {
		p.all[file] += s
	}
	if code == api.Power {
		p.fail()
	}
	return code
}

func (p *plain) sync(file int) api.Code {
	if code := p.refuses(file, ""); code != api.OK {
		return code
	}
	code := p.befalls()
	if code == api.OK {
		p.lasting[file] = p.all[file]
	}
	if code == api.Power {
		p.fail()
	}
	return code
}

func (p *plain) clear(file int) api.Code {
	if code := p.refuses(file, ""); code != api.OK {
		return code
	}
	code := p.befalls()
	if code == api.OK {
		p.all[file], p.lasting[file] = "", ""
	}
	if code == api.Power {
		p.fail()
	}
	return code
}

func (p *plain) read(file int) (string, api.Code) {
	if code := p.refuses(file, ""); code != api.OK {
		return "", code
	}
	return p.all[file], api.OK
}

func (p *plain) lasts(file int) int {
	if file == 0 || file == 1 {
		return len(p.lasting[file])
	}
	return 0
}

// nth is the number of the n-th change from now on; 0, if there is none.
func (p *plain) nth(n int) uint64 {
	if n < 1 {
		return 0
	}
	return p.changes + uint64(n)
}

func (p *plain) on() {
	p.off, p.cut, p.full = false, 0, 0
}

func (p *plain) crash(keep []int) {
	if !p.off {
		p.lose(keep)
	}
	p.on()
}

// both is a disk and what the chapter makes of it; calls are made of both.
type both struct {
	d *Disk
	p *plain
}

func newBoth(limit int) both { return both{New(limit), newPlain(limit)} }

// call makes one that is chosen by chance, and tells what it was, what was answered and what the chapter asks for.
func (b both) call(m maker) (what string, got, want api.Code) {
	file := m.file()
	switch m.IntN(16) {
	case 0, 1, 2, 3, 4, 5:
		s := m.text()
		return fmt.Sprintf("Append(%d, %q)", file, s), b.d.Append(file, s), b.p.append(file, s)
	case 6, 7, 8:
		return fmt.Sprintf("Sync(%d)", file), b.d.Sync(file), b.p.sync(file)
	case 9:
		return fmt.Sprintf("Clear(%d)", file), b.d.Clear(file), b.p.clear(file)
	case 10, 11:
		n, keep := m.count(), m.keep()
		b.p.cut, b.p.keep = b.p.nth(n), slices.Clone(keep)
		b.d.Cut(n, keep...)
		clear(keep)
		return fmt.Sprintf("Cut(%d, %d)", n, b.p.keep), api.OK, api.OK
	case 12:
		n := m.count()
		b.p.full = b.p.nth(n)
		b.d.Break(n)
		return fmt.Sprintf("Break(%d)", n), api.OK, api.OK
	case 13:
		keep := m.keep()
		b.p.crash(keep)
		b.d.Crash(keep...)
		return fmt.Sprintf("Crash(%d)", keep), api.OK, api.OK
	default:
		b.p.on()
		b.d.On()
		return "On()", api.OK, api.OK
	}
}

// differs tells what the disk tells otherwise than the chapter; empty, if there is nothing.
func (b both) differs() string {
	if b.d.Off() != b.p.off {
		return fmt.Sprintf("the power is off: %v", b.d.Off())
	}
	for _, file := range []int{0, 1, -1, 2, math.MinInt, math.MaxInt} {
		got, code := b.d.Read(file)
		want, wantCode := b.p.read(file)
		if got != want || code != wantCode {
			return fmt.Sprintf("Read(%d) = %q, %d, not %q, %d", file, got, code, want, wantCode)
		}
		if b.d.Lasts(file) != b.p.lasts(file) {
			return fmt.Sprintf("Lasts(%d) = %d, not %d", file, b.d.Lasts(file), b.p.lasts(file))
		}
	}
	return ""
}

// maker makes what is handed in.
type maker struct {
	*rand.Rand
}

// file makes the number of one, seldom of one that there isn't.
func (m maker) file() int {
	if m.IntN(12) == 0 {
		return noFiles[m.IntN(len(noFiles))]
	}
	return m.IntN(Files)
}

func (m maker) text() string {
	return "abcdefghijklmnopqrstuvwxyz"[:m.IntN(8)*m.IntN(4)]
}

// count makes what Cut and Break are asked for, mostly a change that comes soon.
func (m maker) count() int {
	if m.IntN(8) == 0 {
		return []int{math.MinInt, -1, math.MaxInt, 1 << 40}[m.IntN(4)]
	}
	return m.IntN(6)
}

func (m maker) keep() []int {
	var out []int
	for range m.IntN(4) {
		k := m.IntN(24) - 12
		if m.IntN(10) == 0 {
			k = extremes[m.IntN(len(extremes))]
		}
		out = append(out, k)
	}
	return out
}

func (m maker) limit() int {
	return []int{-1, 0, 1, 5, 20, 40, 60, 100, 1000, api.MaxDisk, math.MaxInt}[m.IntN(11)]
}

// Two disks side by side, so that what is called of the one is held to change nothing of the other one (P2).
func TestMadeCallsAsTheChapterReads(t *testing.T) {
	m := maker{rand.New(rand.NewPCG(11, 1))}
	seen := map[string]int{}
	for range 2000 {
		disks := []both{newBoth(m.limit()), newBoth(m.limit())}
		var calls []string
		for range 60 {
			at := m.IntN(2)
			before := *disks[at].p
			what, got, want := disks[at].call(m)
			calls = append(calls, fmt.Sprintf("%d: %s", at, what))
			if got != want {
				t.Fatalf("%s: the last one is answered by %d, not %d", strings.Join(calls, "; "), got, want)
			}
			for i, b := range disks {
				if s := b.differs(); s != "" {
					t.Fatalf("%s: then of %d %s", strings.Join(calls, "; "), i, s)
				}
			}
			tell(seen, &before, disks[at].p, what, want)
		}
	}
	for _, kind := range []string{"Append 0", "Append 240", "Append 240 by Cut", "Append 241", "Append 241 by Break", "Append 242", "Sync 0", "Sync 240", "Sync 240 by Cut", "Sync 241 by Break", "Sync 242",
		"Clear 0", "Clear 240", "Clear 240 by Cut", "Clear 241 by Break", "Clear 242", "Crash that loses", "Crash with the power off", "Cut that loses a part", "Cut while Break holds"} {
		if seen[kind] < 50 {
			t.Errorf("%s: only %d", kind, seen[kind])
		}
	}
}

// tell counts what kinds of calls there were.
func tell(seen map[string]int, before, behind *plain, what string, code api.Code) {
	name, _, _ := strings.Cut(what, "(")
	count := func(is bool, kind string) {
		if is {
			seen[kind]++
		}
	}
	change := behind.changes > before.changes
	cut := change && code == api.Power
	count(true, fmt.Sprintf("%s %d", name, code))
	count(cut, name+" 240 by Cut")
	count(change && code == api.Full, name+" 241 by Break")
	count(cut && before.full > 0 && before.full <= behind.changes, "Cut while Break holds")
	lost := len(behind.all[0]+behind.all[1]) < len(before.all[0]+before.all[1])
	kept := len(behind.lasting[0]+behind.lasting[1]) > len(before.lasting[0]+before.lasting[1])
	count(cut && lost && kept, "Cut that loses a part")
	count(name == "Crash" && lost, "Crash that loses")
	count(name == "Crash" && before.off, "Crash with the power off")
}

// All rows of a few calls, one behind the other, on a disk that is small.
func TestAllShortRowsAsTheChapterReads(t *testing.T) {
	keep := []int{2, -2}
	calls := []func(b both) (got, want api.Code){
		func(b both) (api.Code, api.Code) { return b.d.Append(0, "abc"), b.p.append(0, "abc") },
		func(b both) (api.Code, api.Code) { return b.d.Append(1, "xy"), b.p.append(1, "xy") },
		func(b both) (api.Code, api.Code) { return b.d.Append(0, ""), b.p.append(0, "") },
		func(b both) (api.Code, api.Code) { return b.d.Sync(0), b.p.sync(0) },
		func(b both) (api.Code, api.Code) { return b.d.Clear(1), b.p.clear(1) },
		func(b both) (api.Code, api.Code) {
			b.d.Cut(1, keep...)
			b.p.cut, b.p.keep = b.p.nth(1), keep
			return 0, 0
		},
		func(b both) (api.Code, api.Code) {
			b.d.Cut(2)
			b.p.cut, b.p.keep = b.p.nth(2), nil
			return 0, 0
		},
		func(b both) (api.Code, api.Code) {
			b.d.Break(1)
			b.p.full = b.p.nth(1)
			return 0, 0
		},
		func(b both) (api.Code, api.Code) {
			b.d.Break(0)
			b.p.full = b.p.nth(0)
			return 0, 0
		},
		func(b both) (api.Code, api.Code) {
			b.d.Crash(keep...)
			b.p.crash(keep)
			return 0, 0
		},
		func(b both) (api.Code, api.Code) {
			b.d.On()
			b.p.on()
			return 0, 0
		},
	}
	const length = 5
	for row := range power(len(calls), length) {
		b, rest := newBoth(7), row
		for range length {
			got, want := calls[rest%len(calls)](b)
			rest /= len(calls)
			if s := b.differs(); got != want || s != "" {
				t.Fatalf("in the row %d: %d, not %d; %s", row, got, want, s)
			}
		}
	}
}

func power(n, times int) int {
	out := 1
	for range times {
		out *= n
	}
	return out
}
