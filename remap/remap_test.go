package remap

import (
	"fmt"
	"math"
	"strings"
	"testing"
	"unsafe"

	"aqueduct/api"
)

// shown is a thing as failures show it: long ones are cut off.
func shown(x any) string {
	return fmt.Sprintf("%.600s", fmt.Sprintf("%+v", x))
}

func TestExample(t *testing.T) {
	r := Rule{"t/#", Out, 1, "here/", "there/"}
	if s, ok := r.ToRemote("here/t/x"); s != "there/t/x" || !ok {
		t.Errorf("ToRemote(here/t/x) = %q, %v", s, ok)
	}
	if s, ok := r.ToRemote("t/x"); s != "" || ok {
		t.Errorf("ToRemote(t/x) = %q, %v", s, ok)
	}
}

// Of P10.1.

var (
	noFilters = []string{"", "#/", "a#", "#a", "##", "a/#/b", "#/a", "a+", "+a", "++", "a/b+/c", "\x00", "a\x00", "\xff", "a/\xed\xa0\x80",
		strings.Repeat("a", api.MaxTopic+1), strings.Repeat("/", api.MaxLevels), strings.Repeat("a", 1<<20), strings.Repeat("/", 1<<20)}
	// What can be neither Local nor Remote: no topics' names, but for the empty text.
	noSides = []string{"#", "+", "a/#", "+/a", "a+", "a#", "/+/", "\x00", "a\x00", "\xff", "a/\xed\xa0\x80", "\xc3",
		strings.Repeat("a", api.MaxTopic+1), strings.Repeat("/", api.MaxLevels), strings.Repeat("a", 1<<20), strings.Repeat("/", 1<<20)}
	sides  = []string{"", "a", "a/", "/", "//", "$SYS/", "$", "é", "a b/", strings.Repeat("a", api.MaxTopic), strings.Repeat("/", api.MaxLevels-1)}
	noDirs = []Direction{math.MinInt, math.MinInt + 1, -256, -1, 3, 4, 128, 256, 1 << 32, math.MaxInt}
	noQoS  = []int{math.MinInt, math.MinInt + 1, -256, -1, 3, 4, 128, 256, 1 << 32, math.MaxInt}
)

func wantCheck(t *testing.T, r Rule, want api.Code) {
	t.Helper()
	if got := r.Check(); got != want {
		t.Errorf("Check of %s = %d, not %d", shown(r), got, want)
	}
}

func TestCheckOfGoodRules(t *testing.T) {
	for _, local := range sides {
		for _, remote := range sides {
			for dir := Out; dir <= Both; dir++ {
				for qos := range 3 {
					wantCheck(t, Rule{"t/#", dir, qos, local, remote}, api.OK)
				}
			}
		}
	}
	for _, pattern := range []string{"#", "+", "/", "a/+/#", "$SYS/#", "$share/g/a", "é", strings.Repeat("a", api.MaxTopic), strings.Repeat("+/", api.MaxLevels-1) + "#"} {
		wantCheck(t, Rule{Pattern: pattern}, api.OK)
	}
}

func TestCheckOfNoFilter(t *testing.T) {
	for _, pattern := range noFilters {
		wantCheck(t, Rule{pattern, Both, 2, "a/", "b/"}, api.BadFilter)
	}
	wantCheck(t, Rule{}, api.BadFilter)
}

func TestCheckOfSides(t *testing.T) {
	for _, side := range noSides {
		for _, good := range sides {
			wantCheck(t, Rule{"#", Out, 0, side, good}, api.BadTopic)
			wantCheck(t, Rule{"#", Both, 2, good, side}, api.BadTopic)
		}
		wantCheck(t, Rule{"#", In, 1, side, side}, api.BadTopic)
	}
}

func TestCheckOfNumbers(t *testing.T) {
	for _, dir := range noDirs {
		wantCheck(t, Rule{"#", dir, 0, "", ""}, api.Unspecified)
		wantCheck(t, Rule{"#", dir, 2, "a/", "b/"}, api.Unspecified)
	}
	for _, qos := range noQoS {
		wantCheck(t, Rule{"#", Out, qos, "", ""}, api.NoQoS)
		wantCheck(t, Rule{"#", Both, qos, "a/", "b/"}, api.NoQoS)
	}
}

func TestFirstOfSeveralCodes(t *testing.T) {
	for n := range 1 << 5 {
		r, want := Rule{"a/#", In, 1, "l/", "r/"}, api.OK
		// From the code that is told last to that which is told first.
		if n&1 != 0 {
			r.QoS, want = 3, api.NoQoS
		}
		if n&2 != 0 {
			r.Dir, want = 3, api.Unspecified
		}
		if n&4 != 0 {
			r.Remote, want = "+", api.BadTopic
		}
		if n&8 != 0 {
			r.Local, want = "#", api.BadTopic
		}
		if n&16 != 0 {
			r.Pattern, want = "a#", api.BadFilter
		}
		wantCheck(t, r, want)
		if n&1 != 0 {
			r.QoS = math.MinInt
		}
		if n&2 != 0 {
			r.Dir = math.MaxInt
		}
		wantCheck(t, r, want)
	}
}

// Of P10.2.

// told is what a call answers that tells a topic: the topic, or "false" beside which the empty text stands.
func told(s string, ok bool) string {
	switch {
	case ok:
		return "true, " + s
	case s == "":
		return "false"
	default:
		return "false, " + s
	}
}

func wantTopic(t *testing.T, call string, r Rule, name string, s string, ok bool, want string) {
	t.Helper()
	wanted := "false"
	if want != "" {
		wanted = "true, " + want
	}
	if got := told(s, ok); got != wanted {
		t.Errorf("%s of %s and %.300q: %.300s, not %.300s", call, shown(r), name, got, wanted)
	}
}

func wantToRemote(t *testing.T, r Rule, name, want string) {
	t.Helper()
	s, ok := r.ToRemote(name)
	wantTopic(t, "ToRemote", r, name, s, ok, want)
}

func wantToLocal(t *testing.T, r Rule, name, want string) {
	t.Helper()
	s, ok := r.ToLocal(name)
	wantTopic(t, "ToLocal", r, name, s, ok, want)
}

// wantJoined holds what a rule with from on the one side and to on the other one makes of name against a topic, each way; the empty text stands for false.
func wantJoined(t *testing.T, pattern, from, to, name, want string) {
	t.Helper()
	for qos := range 3 {
		out, in := Rule{pattern, Out, qos, from, to}, Rule{pattern, In, qos, to, from}
		wantToRemote(t, out, name, want)
		wantToLocal(t, out, name, "")
		wantToRemote(t, in, name, "")
		wantToLocal(t, in, name, want)
		out.Dir, in.Dir = Both, Both
		wantToRemote(t, out, name, want)
		wantToLocal(t, in, name, want)
	}
}

func TestJoinedTopics(t *testing.T) {
	for _, c := range []struct{ pattern, from, to, name, want string }{
		// Both sides, either, none.
		{"t/#", "here/", "there/", "here/t/x", "there/t/x"},
		{"t/#", "here/", "there/", "here/t", "there/t"},
		{"t/#", "", "there/", "t/x", "there/t/x"},
		{"t/#", "here/", "", "here/t/x", "t/x"},
		{"t/#", "", "", "t/x", "t/x"},
		{"t/#", "a/", "a/", "a/t/x", "a/t/x"},
		// Names that don't begin with what stands ahead, or are no longer.
		{"t/#", "here/", "there/", "t/x", ""},
		{"t/#", "here/", "there/", "there/t/x", ""},
		{"t/#", "here/", "there/", "here", ""},
		{"t/#", "here/", "there/", "h", ""},
		{"t/#", "here/", "there/", "Here/t/x", ""},
		{"t/#", "here/", "there/", "heret/x", ""},
		{"t/#", "here/", "there/", "x/here/t/x", ""},
		{"#", "here/", "there/", "her", ""},
		{"#", "here/", "there/", "heve/a", ""},
		// An empty rest is no topic's name.
		{"#", "here/", "there/", "here/", ""},
		{"+", "here/", "there/", "here/", ""},
		{"#", "a", "b", "a", ""},
		// Byte by byte: a side needn't end with a slash.
		{"#", "a", "b", "ac", "bc"},
		{"+", "a", "b/", "a/", ""},
		{"/", "a", "b", "a/", "b/"},
		{"/+", "a", "b", "a/c", "b/c"},
		{"+/x", "a", "b", "ac/x", "bc/x"},
		{"/#", "a", "b/", "a/c", "b//c"},
		{"#", "a", "", "a/c", "/c"},
		{"#", "é", "è", "éé", "èé"},
		{"#", "aa", "a", "aaa", "aa"},
		{"aa", "a", "b", "aaa", "baa"},
		{"aa", "a", "b", "aa", ""},
		// Rests that the pattern matches, and doesn't.
		{"t/+", "l/", "r/", "l/t/x", "r/t/x"},
		{"t/+", "l/", "r/", "l/t", ""},
		{"t/+", "l/", "r/", "l/t/x/y", ""},
		{"t/#", "l/", "r/", "l/tt", ""},
		{"t", "l/", "r/", "l/t", "r/t"},
		{"t", "l/", "r/", "l/u", ""},
		{"l/t", "l/", "r/", "l/t", ""},
		{"l/t", "l/", "r/", "l/l/t", "r/l/t"},
		{"+", "l/", "r/", "l/t", "r/t"},
		{"+", "l/", "r/", "l//", ""},
		{"+/+", "l/", "r/", "l//", "r//"},
		// A dollar at the first byte of the rest, or of what is put together.
		{"#", "l/", "r/", "l/$SYS/x", ""},
		{"+/x", "l/", "r/", "l/$SYS/x", ""},
		{"+", "", "", "$", ""},
		{"#", "", "r/", "$SYS/x", ""},
		{"$SYS/#", "l/", "r/", "l/$SYS/x", "r/$SYS/x"},
		{"$SYS/+", "", "r/", "$SYS/x", "r/$SYS/x"},
		{"$SYS/#", "l/", "", "l/$SYS/x", "$SYS/x"},
		{"#", "$SYS/", "r/", "$SYS/x", "r/x"},
		{"#", "l/", "$SYS/", "l/x", "$SYS/x"},
		{"SYS", "$", "r/", "$SYS", "r/SYS"},
		{"a/#", "", "", "a/$SYS", "a/$SYS"},
		// No topics' names.
		{"#", "", "", "", ""},
		{"#", "l/", "r/", "", ""},
		{"#", "l/", "r/", "l/+", ""},
		{"#", "l/", "r/", "l/a/#", ""},
		{"#", "l/", "r/", "l/a+", ""},
		{"#", "l/", "r/", "l/\xff", ""},
		{"#", "l/", "r/", "l/\x00", ""},
		{"#", "", "", "+", ""},
		{"#", "", "", "a\x00", ""},
		// A side whose last byte begins a character, which the rest would end, is none.
		{"#", "\xc3", "", "\xc3\xa9", ""},
		{"#", "", "", "\xa9", ""},
		{"#", "a", "b", "a\xa9", ""},
	} {
		wantJoined(t, c.pattern, c.from, c.to, c.name, c.want)
	}
}

func TestJoinedTopicsOfManyBytes(t *testing.T) {
	long := func(n int) string { return strings.Repeat("x", n) }
	for _, c := range []struct {
		from, to, rest int
		want           bool
	}{
		{0, 0, 255, true}, {0, 0, 256, true}, {0, 0, 257, false},
		{5, 6, 249, true}, {5, 6, 250, true}, {5, 6, 251, false}, {5, 6, 252, false},
		{6, 5, 249, true}, {6, 5, 250, true}, {6, 5, 251, false}, {6, 5, 252, false},
		{0, 1, 255, true}, {0, 1, 256, false}, {1, 0, 255, true}, {1, 0, 256, false},
		{255, 0, 1, true}, {255, 255, 1, true}, {255, 255, 2, false}, {0, 256, 1, false}, {256, 0, 1, false}, {256, 256, 1, false}, {256, 0, 0, false},
		{0, 0, 1 << 20, false}, {1, 1, 1 << 20, false},
	} {
		from, to := strings.Repeat("f", c.from), strings.Repeat("t", c.to)
		want := ""
		if c.want {
			want = to + long(c.rest)
		}
		wantJoined(t, "#", from, to, from+long(c.rest), want)
		wantJoined(t, "+", from, to, from+long(c.rest), want)
	}
	// Bytes are counted, not characters.
	wantJoined(t, "#", "a", "é", "a"+long(254), "é"+long(254))
	wantJoined(t, "#", "a", "é", "a"+long(255), "")
	wantJoined(t, "#", "é", "a", "é"+long(254), "a"+long(254))
	wantJoined(t, "#", "é", "a", "é"+long(255), "")
}

func TestJoinedTopicsOfManyLevels(t *testing.T) {
	for _, c := range []struct {
		from, to, rest int // slashes
		want           bool
	}{
		{0, 0, 30, true}, {0, 0, 31, true}, {0, 0, 32, false},
		{2, 3, 27, true}, {2, 3, 28, true}, {2, 3, 29, false}, {2, 3, 30, false},
		{3, 2, 27, true}, {3, 2, 28, true}, {3, 2, 29, false}, {3, 2, 30, false},
		{0, 1, 30, true}, {0, 1, 31, false}, {1, 0, 30, true}, {1, 0, 31, false},
		{31, 0, 0, true}, {0, 31, 0, true}, {31, 31, 0, true}, {31, 0, 1, false}, {0, 31, 1, false}, {31, 31, 1, false},
		{0, 32, 0, false}, {32, 0, 0, false}, {0, 0, 1 << 20, false},
	} {
		from, to, rest := strings.Repeat("/", c.from), strings.Repeat("/", c.to), strings.Repeat("/", c.rest)+"x"
		want := ""
		if c.want {
			want = to + rest
		}
		wantJoined(t, "#", from, to, from+rest, want)
		wantJoined(t, strings.Repeat("+/", min(c.rest, 31))+"#", from, to, from+rest, want)
	}
}

func TestRulesThatAreNotGoodJoinNothing(t *testing.T) {
	good := Rule{"#", Both, 1, "l/", "r/"}
	wantToRemote(t, good, "l/x", "r/x")
	wantToLocal(t, good, "r/x", "l/x")
	none := func(r Rule) {
		t.Helper()
		for _, name := range []string{"l/x", "r/x", "x", "", r.Local + "x", r.Remote + "x", r.Pattern, r.Local + r.Pattern, r.Remote + r.Pattern} {
			wantToRemote(t, r, name, "")
			wantToLocal(t, r, name, "")
		}
	}
	for _, pattern := range noFilters {
		r := good
		r.Pattern = pattern
		none(r)
	}
	for _, side := range noSides {
		r := good
		r.Local = side
		none(r)
		r.Remote = side
		none(r)
		r.Local = good.Local
		none(r)
	}
	for _, dir := range noDirs {
		r := good
		r.Dir = dir
		none(r)
	}
	for _, qos := range noQoS {
		for dir := Out; dir <= Both; dir++ {
			r := good
			r.QoS, r.Dir = qos, dir
			none(r)
		}
	}
	none(Rule{})
}

func TestDirections(t *testing.T) {
	for dir, want := range map[Direction]struct{ remote, local string }{
		Out: {"r/x", ""}, In: {"", "l/x"}, Both: {"r/x", "l/x"}, -1: {}, 3: {},
	} {
		r := Rule{"#", dir, 0, "l/", "r/"}
		wantToRemote(t, r, "l/x", want.remote)
		wantToLocal(t, r, "r/x", want.local)
		wantToRemote(t, r, "r/x", "")
		wantToLocal(t, r, "l/x", "")
	}
}

func TestFlip(t *testing.T) {
	flipped := map[Direction]Direction{Out: In, In: Out, Both: Both}
	for _, dir := range noDirs {
		flipped[dir] = dir
	}
	// Also rules that are not good are flipped.
	for dir, other := range flipped {
		for _, qos := range append([]int{0, 1, 2}, noQoS...) {
			for _, pattern := range []string{"t/#", "", "a#", "\xff"} {
				for _, side := range []string{"l/", "", "+", "\xff", strings.Repeat("a", 300)} {
					r := Rule{pattern, dir, qos, side, "r/"}
					want := Rule{pattern, other, qos, "r/", side}
					got := r.Flip()
					if got != want {
						t.Errorf("Flip of %s = %s", shown(r), shown(got))
					}
					if got.Flip() != r {
						t.Errorf("Flip of %s twice = %s", shown(r), shown(got.Flip()))
					}
				}
			}
		}
	}
	if r := (Rule{}).Flip(); r != (Rule{Dir: In}) {
		t.Errorf("Flip of the zero rule = %v", r)
	}
}

func TestWhatIsFlippedJoinsTheOtherWay(t *testing.T) {
	r := Rule{"t/#", Out, 1, "here/", "there/"}
	wantToLocal(t, r.Flip(), "here/t/x", "there/t/x")
	wantToRemote(t, r.Flip(), "there/t/x", "")
	wantToLocal(t, r.Flip(), "there/t/x", "")
	wantToRemote(t, r.Flip().Flip(), "here/t/x", "there/t/x")
	r.Dir = In
	wantToLocal(t, r, "there/t/x", "here/t/x")
	wantToRemote(t, r.Flip(), "there/t/x", "here/t/x")
	r.Dir = Both
	wantToLocal(t, r.Flip(), "here/t/x", "there/t/x")
	wantToRemote(t, r.Flip(), "there/t/x", "here/t/x")
}

// Of rule 4: what is answered is new memory, and what was handed in is not kept.

// at is where a text stands.
func at(s string) *byte { return unsafe.StringData(s) }

// within tells whether a text stands in the memory of another one.
func within(s, of string) bool {
	begin, here := uintptr(unsafe.Pointer(at(of))), uintptr(unsafe.Pointer(at(s)))
	return here >= begin && here < begin+uintptr(len(of))
}

func TestTopicsAreNewMemory(t *testing.T) {
	for _, r := range []Rule{{"#", Both, 0, "", ""}, {"#", Both, 0, "l/", ""}, {"#", Both, 0, "", "l/"}, {"#", Both, 0, "l/", "l/"}} {
		name := strings.Clone("l/x")
		for _, call := range []func(string) (string, bool){r.ToRemote, r.ToLocal} {
			first, _ := call(name)
			second, ok := call(name)
			if !ok || first != second || at(first) == at(second) || within(first, name) || within(second, name) {
				t.Errorf("what %v makes of a topic shares memory, or isn't there", r)
			}
		}
	}
}

func TestFlippedRulesAreNewMemory(t *testing.T) {
	r := Rule{strings.Clone("t/#"), Out, 1, strings.Clone("l/"), strings.Clone("r/")}
	first, second := r.Flip(), r.Flip()
	places := map[*byte]int{}
	for _, x := range []Rule{r, first, second} {
		for _, s := range []string{x.Pattern, x.Local, x.Remote} {
			places[at(s)]++
		}
	}
	if len(places) != 9 {
		t.Error("texts share memory")
	}
}

func TestAnswersDoNotHangOnWhatWasHandedIn(t *testing.T) {
	memory := []byte("t/#l/r/l/t/x")
	handed := func(from, to int) string { return unsafe.String(&memory[from], to-from) }
	r := Rule{handed(0, 3), Both, 1, handed(3, 5), handed(5, 7)}
	name := handed(7, 12)
	remote, _ := r.ToRemote(name)
	local, _ := r.Flip().ToLocal(name)
	flipped := r.Flip()
	hops := Route([]Rule{r}, name, 2)
	composed, _, _ := Compose([]Rule{r}, name, 2)
	same, _, _ := Compose(nil, name, 2)
	for i := range memory {
		memory[i] = '!'
	}
	for got, want := range map[string]string{remote: "r/t/x", local: "r/t/x", hops[0].Topic: "r/t/x", composed: "r/t/x", same: "l/t/x",
		flipped.Pattern: "t/#", flipped.Local: "r/", flipped.Remote: "l/"} {
		if got != want {
			t.Errorf("%q where %q was told", got, want)
		}
	}
}
