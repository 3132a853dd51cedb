package trie

import (
	"math"
	"math/rand/v2"
	"strings"
	"testing"

	"aqueduct/api"
)

// Rows of calls, each held against the plain list.

// call does one thing to a trie and to a list.
type call func(b both)

// smallCalls are those of two IDs with a few filters that begin alike, go on alike, and are none.
func smallCalls() []call {
	var all []call
	for _, id := range []int{-1, 2} {
		for _, filter := range []string{"a", "a/#", "a/+", "#", "+/b"} {
			all = append(all, func(b both) { b.add(Entry{id, filter, 1}) })
			all = append(all, func(b both) { b.remove(id, filter) })
		}
		all = append(all, func(b both) { b.drop(id) })
	}
	return append(all,
		func(b both) { b.add(Entry{2, "a/+", 0}) },
		func(b both) { b.add(Entry{2, "a/+", 3}) },
		func(b both) { b.add(Entry{2, "a+", 0}) },
		func(b both) { b.remove(2, "a/") },
		func(b both) { b.drop(0) },
	)
}

func TestAllShortRows(t *testing.T) {
	names := []string{"a", "a/", "a/b", "b", "b/b", "$", "a/b/c", "+", ""}
	calls := smallCalls()
	rows := 0
	var goOn func(row []int)
	goOn = func(row []int) {
		b := newBoth(t)
		for _, i := range row {
			calls[i](b)
		}
		rows++
		if !b.same(names, []int{-2, -1, 0, 1, 2}) {
			t.Fatalf("behind the row %v", row)
		}
		if len(row) < 3 {
			for i := range calls {
				goOn(append(row, i))
			}
		}
	}
	goOn(nil)
	if rows < 10000 {
		t.Errorf("there are only %d rows", rows)
	}
}

// maker makes what is handed in.
type maker struct {
	*rand.Rand
}

func (m maker) one(of ...string) string { return of[m.IntN(len(of))] }

// id makes one, oftener 1 than others, so that it comes to as many entries as it may have.
func (m maker) id() int { return []int{math.MinInt, -1, 0, 1, 1, 1, 1, math.MaxInt}[m.IntN(8)] }

// filter makes one, seldom a text that is none.
func (m maker) filter() string {
	var levels []string
	for range 1 + m.IntN(4) {
		levels = append(levels, m.one("", "a", "b", "ab", "+", "+", "$s", "é"))
	}
	if m.IntN(4) == 0 {
		levels = append(levels, "#")
	}
	s := strings.Join(levels, "/")
	switch m.IntN(40) {
	case 0:
		return m.one("", "#/a", "a+", "+a/b", "a#", "a\x00", "\xff", strings.Repeat("a", 257), strings.Repeat("/", 32))
	case 1:
		return s + strings.Repeat("/+", 32-len(levels))
	default:
		return s
	}
}

// name makes one, seldom a text that is none.
func (m maker) name() string {
	return strings.ReplaceAll(strings.TrimSuffix(m.filter(), "/#"), "+", m.one("a", "b", ""))
}

// qos makes one, seldom a number that is none.
func (m maker) qos() int {
	if m.IntN(30) == 0 {
		return []int{math.MinInt, -1, 3, math.MaxInt}[m.IntN(4)]
	}
	return m.IntN(3)
}

// call does some one thing, and counts what came of it.
func (m maker) call(b both, seen map[string]int) {
	switch m.IntN(12) {
	case 0, 1:
		if b.remove(m.id(), m.filter()) {
			seen["removed"]++
		}
	case 2:
		if l := b.p.entries; len(l) > 0 {
			e := l[m.IntN(len(l))]
			b.remove(e.ID, e.Filter)
			seen["taken away"]++
		}
	case 3:
		if m.IntN(20) == 0 && b.drop(m.id()) > 1 {
			seen["dropped"]++
		}
	default:
		switch b.add(Entry{m.id(), m.filter(), m.qos()}) {
		case api.OK:
			seen["added"]++
		case api.Quota:
			seen["quota"]++
		case api.BadFilter:
			seen["bad filter"]++
		case api.NoQoS:
			seen["no QoS"]++
		}
	}
}

func TestMadeRows(t *testing.T) {
	m := maker{rand.New(rand.NewPCG(9, 1))}
	seen := map[string]int{}
	for range 20 {
		b := newBoth(t)
		for range 500 {
			m.call(b, seen)
			name := m.name()
			if !b.same([]string{name}, []int{m.id()}) {
				t.Fatal("in a made row")
			}
			if len(b.x.Match(name)) > 1 {
				seen["matched by several"]++
			}
		}
	}
	for _, kind := range []string{"removed", "taken away", "dropped", "added", "quota", "bad filter", "no QoS", "matched by several"} {
		if seen[kind] < 20 {
			t.Errorf("%s: only %d", kind, seen[kind])
		}
	}
}

// Of P2: what is done to one trie is not told of another one.

func TestTwoTries(t *testing.T) {
	m := maker{rand.New(rand.NewPCG(9, 2))}
	two := []both{newBoth(t), newBoth(t)}
	seen := map[string]int{}
	for range 1000 {
		m.call(two[m.IntN(2)], seen)
		name, id := m.name(), m.id()
		for _, b := range two {
			if !b.same([]string{name}, []int{id}) {
				t.Fatal("with two tries")
			}
		}
	}
	two[0].drop(1)
	if len(two[1].x.For(1)) == 0 {
		t.Error("the other trie has none of that ID")
	}
}
