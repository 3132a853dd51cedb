package trie

import (
	"math"
	"slices"
	"strconv"
	"strings"
	"testing"
	"unsafe"

	"aqueduct/api"
)

// with makes a trie and a list of these entries.
func with(t *testing.T, entries ...Entry) both {
	t.Helper()
	b := newBoth(t)
	for _, e := range entries {
		if c := b.add(e); c != api.OK {
			t.Fatalf("Add(%.300v) = %d", e, c)
		}
	}
	return b
}

func wantEntries(t *testing.T, what string, got []Entry, want ...Entry) {
	t.Helper()
	if !slices.Equal(got, want) {
		t.Errorf("%s = %.900v, not %.900v", what, got, want)
	}
}

// numbered is the filter of a number; those of different numbers differ.
func numbered(n int) string { return "f/" + strconv.Itoa(n) }

// full makes a trie in which an ID has as many entries as it may.
func full(t *testing.T, id int) both {
	t.Helper()
	b := newBoth(t)
	for n := range api.MaxSubs {
		if c := b.add(Entry{id, numbered(n), n % 3}); c != api.OK {
			t.Fatalf("Add of number %d = %d", n, c)
		}
	}
	return b
}

func TestExample(t *testing.T) {
	b := with(t, Entry{1, "a/+", 0}, Entry{2, "a/b", 1}, Entry{1, "#", 2})
	wantEntries(t, "Match", b.x.Match("a/b"), Entry{1, "#", 2}, Entry{1, "a/+", 0}, Entry{2, "a/b", 1})
}

func TestNilTrie(t *testing.T) {
	var x *Trie
	for _, e := range []Entry{{}, {1, "a", 1}, {1, "a+", 1}, {1, "a", 3}, {1, "", -1}} {
		if c := x.Add(e); c != api.Unspecified {
			t.Errorf("Add(%v) = %d", e, c)
		}
	}
	if x.Remove(1, "a") || x.Drop(1) != 0 {
		t.Error("Remove or Drop tells of something")
	}
	if len(x.Match("a")) != 0 || len(x.For(1)) != 0 || len(x.Filters()) != 0 {
		t.Error("Match, For or Filters tells of something")
	}
}

func TestEmptyTrie(t *testing.T) {
	for _, x := range []*Trie{New(), {}} {
		if x.Remove(1, "a") || x.Drop(1) != 0 {
			t.Error("Remove or Drop tells of something")
		}
		if len(x.Match("a")) != 0 || len(x.For(1)) != 0 || len(x.Filters()) != 0 {
			t.Error("Match, For or Filters tells of something")
		}
		if c := x.Add(Entry{1, "a", 1}); c != api.OK {
			t.Errorf("Add = %d", c)
		}
		wantEntries(t, "Match", x.Match("a"), Entry{1, "a", 1})
	}
}

// Of P9.1.

var noFilters = []string{"", "#/", "a#", "#a", "##", "a/#/b", "#/a", "a+", "+a", "++", "a/b+/c", "\x00", "a\x00", "\xff", "a/\xed\xa0\x80",
	strings.Repeat("a", api.MaxTopic+1), strings.Repeat("/", api.MaxLevels), strings.Repeat("a", 1<<20), strings.Repeat("/", 1<<20)}

func TestAddOfNoFilter(t *testing.T) {
	b := with(t, Entry{1, "a", 1})
	for _, filter := range noFilters {
		for _, qos := range []int{0, 2, -1, 3} {
			if c := b.add(Entry{1, filter, qos}); c != api.BadFilter {
				t.Errorf("Add(%.300q) with QoS %d = %d", filter, qos, c)
			}
		}
	}
	b.same([]string{"a", "b"}, []int{1})
}

func TestAddOfGreatFilters(t *testing.T) {
	for _, filter := range []string{
		strings.Repeat("a", api.MaxTopic),
		strings.Repeat("/", api.MaxLevels-1),
		strings.Repeat("+/", api.MaxLevels-1) + "+",
		strings.Repeat("+/", api.MaxLevels-1) + "#",
	} {
		b := with(t, Entry{1, filter, 1})
		b.same([]string{strings.Repeat("/", api.MaxLevels-1), strings.Repeat("/", api.MaxLevels-2), strings.Repeat("a", api.MaxTopic)}, []int{1})
		if !b.remove(1, filter) {
			t.Errorf("%.300q is not removed", filter)
		}
		b.same(nil, []int{1})
	}
}

func TestAddOfNoQoS(t *testing.T) {
	b := with(t, Entry{1, "a", 1})
	for _, qos := range []int{math.MinInt, math.MinInt + 1, -256, -1, 3, 4, 128, 256, 1 << 32, math.MaxInt} {
		for _, filter := range []string{"a", "b"} {
			if c := b.add(Entry{1, filter, qos}); c != api.NoQoS {
				t.Errorf("Add with QoS %d = %d", qos, c)
			}
		}
		b.same([]string{"a", "b"}, []int{1})
	}
	for qos := range 3 {
		if c := b.add(Entry{1, "a", qos}); c != api.OK {
			t.Errorf("Add with QoS %d = %d", qos, c)
		}
		wantEntries(t, "For", b.x.For(1), Entry{1, "a", qos})
	}
}

func TestFirstOfSeveralCodes(t *testing.T) {
	b := full(t, 1)
	for _, c := range []struct {
		e    Entry
		want api.Code
	}{
		{Entry{1, "a+", 3}, api.BadFilter},
		{Entry{1, "a+", 1}, api.BadFilter},
		{Entry{1, "", math.MaxInt}, api.BadFilter},
		{Entry{1, "a", 3}, api.NoQoS},
		{Entry{1, "a", -1}, api.NoQoS},
		{Entry{1, numbered(0), 3}, api.NoQoS},
		{Entry{1, "a", 1}, api.Quota},
	} {
		if got := b.add(c.e); got != c.want {
			t.Errorf("Add(%v) = %d, not %d", c.e, got, c.want)
		}
		b.same([]string{"a", numbered(0)}, []int{1})
	}
}

func TestAddInThePlaceOfAnother(t *testing.T) {
	b := with(t, Entry{1, "a/+", 0}, Entry{2, "a/+", 0}, Entry{1, "a", 0})
	if c := b.add(Entry{1, "a/+", 2}); c != api.OK {
		t.Errorf("Add = %d", c)
	}
	wantEntries(t, "Match", b.x.Match("a/b"), Entry{1, "a/+", 2}, Entry{2, "a/+", 0})
	wantEntries(t, "For", b.x.For(1), Entry{1, "a", 0}, Entry{1, "a/+", 2})
	if n := b.drop(1); n != 2 {
		t.Errorf("Drop = %d", n)
	}
}

func TestAddInThePlaceOfAnotherOfMany(t *testing.T) {
	b := full(t, 1)
	for n := range api.MaxSubs {
		if c := b.add(Entry{1, numbered(n), (n + 1) % 3}); c != api.OK {
			t.Errorf("Add in the place of number %d = %d", n, c)
		}
		wantEntries(t, "Match", b.x.Match(numbered(n)), Entry{1, numbered(n), (n + 1) % 3})
	}
	b.same(nil, []int{1})
}

func TestQuota(t *testing.T) {
	b := full(t, 1)
	for _, filter := range []string{"a", "f", "f/0/#", "f/+", "#", "g/h/i"} {
		if c := b.add(Entry{1, filter, 1}); c != api.Quota {
			t.Errorf("Add(%q) = %d", filter, c)
		}
		b.same([]string{"a", "f", "f/0", "g/h/i"}, []int{1})
		if b.remove(1, filter) {
			t.Errorf("%q is there", filter)
		}
	}
	for _, id := range []int{0, -1, 2, math.MinInt, math.MaxInt} {
		if c := b.add(Entry{id, "a", 1}); c != api.OK {
			t.Errorf("Add of the ID %d = %d", id, c)
		}
	}
	b.same([]string{"a", numbered(0)}, []int{1, 2})
	if n := b.drop(1); n != api.MaxSubs {
		t.Errorf("Drop = %d", n)
	}
}

func TestManyIDs(t *testing.T) {
	b := newBoth(t)
	for id := -20; id < 20; id++ {
		for n := range api.MaxSubs {
			if c := b.add(Entry{id, numbered(n), 0}); c != api.OK {
				t.Fatalf("Add of the ID %d, number %d = %d", id, n, c)
			}
		}
	}
	b.same([]string{numbered(0), numbered(63), numbered(64)}, []int{-21, -20, 0, 19, 20})
	if n := len(b.x.Filters()); n != api.MaxSubs {
		t.Errorf("there are %d filters", n)
	}
}

func TestGreatNumbers(t *testing.T) {
	b := with(t, Entry{math.MaxInt, "a", 0}, Entry{0, "a", 1}, Entry{math.MinInt, "a", 2}, Entry{-1, "a", 0}, Entry{math.MaxInt - 1, "a", 1})
	wantEntries(t, "Match", b.x.Match("a"),
		Entry{math.MinInt, "a", 2}, Entry{-1, "a", 0}, Entry{0, "a", 1}, Entry{math.MaxInt - 1, "a", 1}, Entry{math.MaxInt, "a", 0})
	for _, e := range []Entry{{math.MinInt, "a", math.MinInt}, {math.MaxInt, "a", math.MaxInt}} {
		if c := b.add(e); c != api.NoQoS {
			t.Errorf("Add(%v) = %d", e, c)
		}
		wantEntries(t, "For", b.x.For(e.ID), b.p.of(e.ID)...)
	}
	if !b.remove(math.MinInt, "a") || b.drop(math.MaxInt) != 1 || b.drop(math.MinInt) != 0 {
		t.Error("Remove or Drop")
	}
}

// Of P9.2.

func TestRemove(t *testing.T) {
	b := with(t, Entry{1, "a", 0}, Entry{1, "a/b", 1}, Entry{1, "a/b/#", 2}, Entry{2, "a/b", 1}, Entry{2, "a/+", 0})
	names := []string{"a", "a/b", "a/b/c", "a/c"}
	for _, c := range []struct {
		id     int
		filter string
		want   bool
	}{
		{3, "a", false}, {-1, "a", false}, {2, "a", false}, {2, "a/b/#", false}, {1, "a/+", false},
		{1, "", false}, {1, "a/", false}, {1, "/a", false}, {1, "A", false}, {1, "#", false}, {1, "a/b/c", false}, {1, "a/b/+", false},
		{1, "a/b", true}, {1, "a/b", false},
		{1, "a", true}, {1, "a", false},
		{2, "a/b", true}, {2, "a/b", false},
		{1, "a/b/#", true}, {1, "a/b/#", false},
		{2, "a/+", true}, {2, "a/+", false},
	} {
		if got := b.remove(c.id, c.filter); got != c.want {
			t.Errorf("Remove(%d, %q) = %v", c.id, c.filter, got)
		}
		b.same(names, []int{1, 2, 3})
	}
	if n := len(b.x.Filters()); n != 0 {
		t.Errorf("%d filters are left", n)
	}
}

func TestRemoveOfNoFilter(t *testing.T) {
	b := with(t, Entry{1, "a", 0}, Entry{1, "#", 1})
	for _, filter := range noFilters {
		if b.remove(1, filter) {
			t.Errorf("Remove(%.300q)", filter)
		}
	}
	b.same([]string{"a", "b"}, []int{1})
}

func TestDrop(t *testing.T) {
	b := full(t, 1)
	others := []Entry{{2, numbered(0), 1}, {2, "f", 1}, {2, "f/0/1", 1}, {-3, "f/+", 2}, {-3, "#", 0}}
	for _, e := range others {
		b.add(e)
	}
	names := []string{"f", numbered(0), numbered(63), "f/0/1"}
	for _, c := range []struct{ id, want int }{{0, 0}, {-1, 0}, {math.MinInt, 0}, {math.MaxInt, 0}, {1, 64}, {1, 0}, {-3, 2}, {2, 3}, {2, 0}} {
		if got := b.drop(c.id); got != c.want {
			t.Errorf("Drop(%d) = %d, not %d", c.id, got, c.want)
		}
		b.same(names, []int{1, 2, -3})
		if b.remove(c.id, numbered(0)) {
			t.Errorf("the ID %d has one yet", c.id)
		}
	}
	b.add(Entry{1, "a", 0})
	if n := b.drop(1); n != 1 {
		t.Errorf("Drop of one = %d", n)
	}
}

func TestRoomAgain(t *testing.T) {
	b := full(t, 1)
	b.remove(1, numbered(5))
	for _, e := range []struct {
		filter string
		want   api.Code
	}{{"a", api.OK}, {"a", api.OK}, {"b", api.Quota}, {numbered(5), api.Quota}} {
		if c := b.add(Entry{1, e.filter, 1}); c != e.want {
			t.Errorf("Add(%q) behind Remove = %d", e.filter, c)
		}
	}
	b.drop(1)
	for n := range api.MaxSubs + 1 {
		if c := b.add(Entry{1, "g/" + numbered(n), 1}); (c == api.OK) != (n < api.MaxSubs) {
			t.Errorf("Add of number %d behind Drop = %d", n, c)
		}
	}
	b.same([]string{"a", numbered(5), "g/f/5"}, []int{1})
}

// Of P9.3.

func TestMatchOfNoName(t *testing.T) {
	b := with(t, Entry{1, "#", 0}, Entry{1, "+", 0}, Entry{1, "+/#", 0}, Entry{1, "a/+", 0}, Entry{1, "a/#", 0}, Entry{1, "/", 0})
	for _, name := range []string{"", "#", "+", "a/+", "a/#", "a+", "a#", "+/a", "\x00", "a/\x00", "\xff", "a/\xed\xa0\x80",
		strings.Repeat("a", api.MaxTopic+1), strings.Repeat("/", api.MaxLevels), strings.Repeat("/", 1<<20)} {
		if l := b.x.Match(name); len(l) != 0 {
			t.Errorf("Match(%.300q) = %v", name, l)
		}
	}
	for _, name := range []string{strings.Repeat("a", api.MaxTopic), strings.Repeat("/", api.MaxLevels-1)} {
		if l := b.x.Match(name); len(l) != len(b.p.match(name)) || len(l) == 0 {
			t.Errorf("Match(%.300q) = %v", name, l)
		}
	}
}

// checkMatched holds the filters that Match finds of these against those that are wanted, each written apart.
func checkMatched(t *testing.T, b both, name, want string) {
	t.Helper()
	var got []string
	for _, e := range b.x.Match(name) {
		got = append(got, e.Filter)
	}
	if s := strings.Join(got, " "); s != want {
		t.Errorf("Match(%q) finds %q, not %q", name, s, want)
	}
}

// owner makes a trie of which one ID has these filters.
func owner(t *testing.T, filters string) both {
	t.Helper()
	b := newBoth(t)
	for _, filter := range strings.Split(filters, " ") {
		b.add(Entry{1, filter, 0})
	}
	return b
}

func TestMatchOfEmptyLevels(t *testing.T) {
	b := owner(t, "/ // /a a/ a//b a/+/b +/+ + /+ +/ /# a/# a")
	for name, want := range map[string]string{
		"/":    "+/ +/+ / /# /+",
		"//":   "/# //",
		"/a":   "+/+ /# /+ /a",
		"a/":   "+/ +/+ a/ a/#",
		"a//b": "a/# a/+/b a//b",
		"a":    "+ a a/#",
		"b/":   "+/ +/+",
		"//a":  "/#",
		"a/b":  "+/+ a/#",
	} {
		checkMatched(t, b, name, want)
	}
}

func TestMatchOfPlus(t *testing.T) {
	b := owner(t, "+/b/c a/+/c a/b/+ +/+/c a/+/+ +/b/+ +/+/+ + +/+ a/b/c")
	for name, want := range map[string]string{
		"a/b/c":   "+/+/+ +/+/c +/b/+ +/b/c a/+/+ a/+/c a/b/+ a/b/c",
		"x/b/c":   "+/+/+ +/+/c +/b/+ +/b/c",
		"a/x/c":   "+/+/+ +/+/c a/+/+ a/+/c",
		"a/b/x":   "+/+/+ +/b/+ a/+/+ a/b/+",
		"x/y/z":   "+/+/+",
		"a/b":     "+/+",
		"a":       "+",
		"a/b/c/d": "",
		"A/B/C":   "+/+/+",
	} {
		checkMatched(t, b, name, want)
	}
}

func TestMatchOfHash(t *testing.T) {
	b := owner(t, "# a/# a/b/# a/b/c/# +/# +/b/# a/+/# a/b/c b/#")
	for name, want := range map[string]string{
		"a":       "# +/# a/#",
		"a/":      "# +/# a/# a/+/#",
		"a/b":     "# +/# +/b/# a/# a/+/# a/b/#",
		"a/b/c":   "# +/# +/b/# a/# a/+/# a/b/# a/b/c a/b/c/#",
		"a/b/c/d": "# +/# +/b/# a/# a/+/# a/b/# a/b/c/#",
		"b":       "# +/# b/#",
		"c/b":     "# +/# +/b/#",
		"c":       "# +/#",
		"/":       "# +/#",
	} {
		checkMatched(t, b, name, want)
	}
}

func TestMatchOfDollar(t *testing.T) {
	b := owner(t, "# + +/# +/+ +/x $SYS/# $SYS/+ $SYS/x $SYS $/# $ a/# a/+ a/$SYS /+ /$")
	for name, want := range map[string]string{
		"$SYS/x":   "$SYS/# $SYS/+ $SYS/x",
		"$SYS":     "$SYS $SYS/#",
		"$SYS/$":   "$SYS/# $SYS/+",
		"$SYS/x/y": "$SYS/#",
		"$":        "$ $/#",
		"$/x":      "$/#",
		"$sys/x":   "",
		"$S":       "",
		"a/$SYS":   "# +/# +/+ a/# a/$SYS a/+",
		"/$":       "# +/# +/+ /$ /+",
	} {
		checkMatched(t, b, name, want)
	}
}

func TestForOfNone(t *testing.T) {
	b := with(t, Entry{1, "a", 0})
	for _, id := range []int{0, -1, 2, math.MinInt, math.MaxInt} {
		if l := b.x.For(id); len(l) != 0 {
			t.Errorf("For(%d) = %v", id, l)
		}
	}
	b.remove(1, "a")
	if l := b.x.For(1); len(l) != 0 {
		t.Errorf("For behind Remove = %v", l)
	}
}

func TestFilters(t *testing.T) {
	b := with(t, Entry{3, "b", 0}, Entry{1, "b", 1}, Entry{2, "b", 2}, Entry{1, "a/b", 0}, Entry{-2, "a/b", 0}, Entry{1, "a", 0},
		Entry{1, "/", 0}, Entry{1, "a/", 0}, Entry{1, "#", 0}, Entry{1, "$s/+/#", 0}, Entry{1, "+", 0}, Entry{1, "é", 0}, Entry{1, "ab", 0}, Entry{1, "a b", 0}, Entry{1, "B", 0})
	want := []string{"#", "$s/+/#", "+", "/", "B", "a", "a b", "a/", "a/b", "ab", "b", "é"}
	if got := b.x.Filters(); !slices.Equal(got, want) {
		t.Errorf("Filters() = %q, not %q", got, want)
	}
	b.remove(1, "b")
	b.drop(3)
	if got := b.x.Filters(); !slices.Equal(got, want) {
		t.Errorf("Filters() = %q, where one has each yet", got)
	}
	b.remove(2, "b")
	if got := b.x.Filters(); slices.Contains(got, "b") || len(got) != len(want)-1 {
		t.Errorf("Filters() = %q, where nobody has b", got)
	}
}

func TestOrder(t *testing.T) {
	b := newBoth(t)
	for _, id := range []int{3, -2, math.MaxInt, 0, -10, math.MinInt, 10} {
		for _, filter := range []string{"a/b/c", "a/b/+", "#", "+/b/c", "a/#", "a/b/c/#", "+/+/+", "a/+/c"} {
			b.add(Entry{id, filter, 1})
		}
	}
	var want []Entry
	for _, id := range []int{math.MinInt, -10, -2, 0, 3, 10, math.MaxInt} {
		for _, filter := range []string{"#", "+/+/+", "+/b/c", "a/#", "a/+/c", "a/b/+", "a/b/c", "a/b/c/#"} {
			want = append(want, Entry{id, filter, 1})
		}
	}
	for range 20 {
		wantEntries(t, "Match", b.x.Match("a/b/c"), want...)
		wantEntries(t, "For", b.x.For(-10), want[8:16]...)
	}
}

// Of rule 4: what is answered is new memory, and what was handed in is not kept.

// at is where a text stands.
func at(s string) *byte { return unsafe.StringData(s) }

func TestAnswersAreNewMemory(t *testing.T) {
	filter := strings.Clone("a/b")
	x := New()
	x.Add(Entry{1, filter, 1})
	x.Add(Entry{2, filter, 1})
	x.Add(Entry{1, "a", 1})
	for _, ask := range []func() []Entry{
		func() []Entry { return x.Match("a/b") },
		func() []Entry { return x.For(1) },
	} {
		first, second := ask(), ask()
		want := slices.Clone(first)
		places := map[*byte]int{at(filter): 1}
		for _, e := range append(slices.Clone(first), second...) {
			places[at(e.Filter)]++
		}
		if len(places) != 1+len(first)+len(second) {
			t.Error("texts share memory")
		}
		clear(first[:cap(first)])
		wantEntries(t, "the second answer", second, want...)
		wantEntries(t, "the third answer", ask(), want...)
	}
	first, second := x.Filters(), x.Filters()
	if at(first[0]) == at(second[0]) || at(first[1]) == at(second[1]) || at(first[1]) == at(filter) {
		t.Error("texts of Filters share memory")
	}
	clear(first[:cap(first)])
	if want := []string{"a", "a/b"}; !slices.Equal(second, want) || !slices.Equal(x.Filters(), want) {
		t.Error("answers of Filters share memory")
	}
}

func TestWhatIsHandedInIsNotKept(t *testing.T) {
	x := New()
	memory := []byte("a/b/c")
	handed := unsafe.String(&memory[0], len(memory))
	for _, id := range []int{1, 2} {
		x.Add(Entry{id, handed, 0})
		x.Add(Entry{id, handed, 1})
	}
	x.Match(handed)
	x.Remove(2, handed)
	copy(memory, "x/y/z")
	wantEntries(t, "Match", x.Match("a/b/c"), Entry{1, "a/b/c", 1})
	wantEntries(t, "For", x.For(1), Entry{1, "a/b/c", 1})
	if got := x.Filters(); !slices.Equal(got, []string{"a/b/c"}) {
		t.Errorf("Filters() = %q", got)
	}
	if x.Remove(1, "x/y/z") || !x.Remove(1, "a/b/c") {
		t.Error("Remove")
	}
}

// A branch that stays must not keep the filter by which it came, when that is gone.
func TestBranchesKeepTheirLevelsAlone(t *testing.T) {
	first, second := strings.Repeat("a", 40), strings.Repeat("b", 40)
	b := with(t, Entry{1, first + "/" + second, 0})
	for level, next := range b.x.root.further {
		for further := range next.further {
			if uintptr(unsafe.Pointer(at(further)))-uintptr(unsafe.Pointer(at(level))) == 41 {
				t.Error("both levels stand in one text")
			}
		}
	}
}
