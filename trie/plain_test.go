package trie

import (
	"slices"
	"sort"
	"strings"
	"testing"

	"aqueduct/api"
	"aqueduct/topic"
)

// A plain reading of the chapter: a list of entries, which is searched by layer 7's Match.

type plain struct {
	entries []Entry
}

func (p *plain) add(e Entry) api.Code {
	if topic.CheckFilter(e.Filter) != api.OK {
		return api.BadFilter
	}
	if e.QoS != 0 && e.QoS != 1 && e.QoS != 2 {
		return api.NoQoS
	}
	for i, there := range p.entries {
		if there.ID == e.ID && there.Filter == e.Filter {
			p.entries[i] = e
			return api.OK
		}
	}
	if len(p.of(e.ID)) == 64 {
		return api.Quota
	}
	p.entries = append(p.entries, e)
	return api.OK
}

func (p *plain) remove(id int, filter string) bool {
	before := len(p.entries)
	p.entries = slices.DeleteFunc(p.entries, func(e Entry) bool { return e.ID == id && e.Filter == filter })
	return len(p.entries) < before
}

func (p *plain) drop(id int) int {
	before := len(p.entries)
	p.entries = slices.DeleteFunc(p.entries, func(e Entry) bool { return e.ID == id })
	return before - len(p.entries)
}

// those tells the entries that are wanted, in order.
func (p *plain) those(wanted func(e Entry) bool) []Entry {
	var out []Entry
	for _, e := range p.entries {
		if wanted(e) {
			out = append(out, e)
		}
	}
	sort.Slice(out, func(i, j int) bool {
		if out[i].ID != out[j].ID {
			return out[i].ID < out[j].ID
		}
		return out[i].Filter < out[j].Filter
	})
	return out
}

func (p *plain) match(name string) []Entry {
	return p.those(func(e Entry) bool { return topic.Match(e.Filter, name) })
}

func (p *plain) of(id int) []Entry {
	return p.those(func(e Entry) bool { return e.ID == id })
}

func (p *plain) filters() []string {
	var out []string
	for _, e := range p.entries {
		if !slices.Contains(out, e.Filter) {
			out = append(out, e.Filter)
		}
	}
	sort.Strings(out)
	return out
}

// both is a trie and a plain list to which all the same is done.
type both struct {
	t *testing.T
	x *Trie
	p *plain
}

func newBoth(t *testing.T) both {
	return both{t, New(), &plain{}}
}

func (b both) add(e Entry) api.Code {
	b.t.Helper()
	got, want := b.x.Add(e), b.p.add(e)
	if got != want {
		b.t.Errorf("Add(%.300v) = %d, not %d", e, got, want)
	}
	return got
}

func (b both) remove(id int, filter string) bool {
	b.t.Helper()
	got, want := b.x.Remove(id, filter), b.p.remove(id, filter)
	if got != want {
		b.t.Errorf("Remove(%d, %.300q) = %v", id, filter, got)
	}
	return got
}

func (b both) drop(id int) int {
	b.t.Helper()
	got, want := b.x.Drop(id), b.p.drop(id)
	if got != want {
		b.t.Errorf("Drop(%d) = %d, not %d", id, got, want)
	}
	return got
}

// same tells whether the trie answers as the list does: of these names and IDs, all filters, and that it keeps nothing more.
func (b both) same(names []string, ids []int) bool {
	b.t.Helper()
	ok := true
	for _, name := range names {
		if got, want := b.x.Match(name), b.p.match(name); !slices.Equal(got, want) {
			b.t.Errorf("Match(%.300q) = %.900v, not %.900v", name, got, want)
			ok = false
		}
	}
	for _, id := range ids {
		if got, want := b.x.For(id), b.p.of(id); !slices.Equal(got, want) {
			b.t.Errorf("For(%d) = %.900v, not %.900v", id, got, want)
			ok = false
		}
	}
	if got, want := b.x.Filters(), b.p.filters(); !slices.Equal(got, want) {
		b.t.Errorf("Filters() = %.900q, not %.900q", got, want)
		ok = false
	}
	return b.keepsNoMore() && ok
}

// keepsNoMore tells whether the trie has a branch for each beginning of its filters, and none beside; likewise its IDs.
func (b both) keepsNoMore() bool {
	b.t.Helper()
	beginnings, ids := map[string]int{}, map[int]int{}
	for _, e := range b.p.entries {
		levels := strings.Split(e.Filter, "/")
		for n := range levels {
			beginnings[strings.Join(levels[:n+1], "/")]++
		}
		ids[e.ID]++
	}
	if got := branches(&b.x.root); got != len(beginnings) {
		b.t.Errorf("%d branches are kept, not %d", got, len(beginnings))
		return false
	}
	if len(b.x.owned) != len(ids) {
		b.t.Errorf("%d IDs are kept, not %d", len(b.x.owned), len(ids))
		return false
	}
	return true
}

// branches counts those behind a branch.
func branches(b *branch) int {
	n := len(b.further)
	for _, next := range b.further {
		n += branches(next)
	}
	return n
}
