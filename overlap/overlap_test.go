package overlap

import (
	"math/rand/v2"
	"slices"
	"strings"
	"testing"

	"aqueduct/api"
)

// Of the chapter's examples.

func TestExamples(t *testing.T) {
	checkOverlap(t, "a/+", "+/b", true)
	if s, ok := Witness("a/+", "+/b"); s != "a/b" || !ok {
		t.Errorf("Witness(a/+, +/b) = %q, %v", s, ok)
	}
	checkCovers(t, "+/#", "#", true)
	checkCovers(t, "a/+/#", "a/#", false)
	if s, ok := Gap("a/+/#", "a/#"); s != "a" || !ok {
		t.Errorf("Gap(a/+/#, a/#) = %q, %v", s, ok)
	}
	checkCovers(t, "/+/#", "/#", true)
	checkOverlap(t, "/#", "+", false)
	checkCovers(t, "#", "$x", false)
	if s, ok := Gap("#", "$x"); s != "$x" || !ok {
		t.Errorf("Gap(#, $x) = %q, %v", s, ok)
	}
}

// Of P8.1 and P8.2.

func TestWithoutWildcards(t *testing.T) {
	names := []string{"a", "A", "b", "ab", "/", "//", "/a", "a/", "a/b", "a/B", "b/a", "a//b", "/a/b", "a/b/", "a/b/c", "é", "e\u0301", "$", "$SYS", "$SYS/x", "x/$SYS", " a", "a "}
	for _, f := range names {
		for _, g := range names {
			checkOverlap(t, f, g, f == g)
			checkCovers(t, f, g, f == g)
		}
	}
}

// pair is two filters: whether both match some topic, and whether one covers the other.
type pair struct {
	f, g                  string
	overlap, covers, back bool
}

func checkPairs(t *testing.T, pairs []pair) {
	t.Helper()
	for _, p := range pairs {
		checkOverlap(t, p.f, p.g, p.overlap)
		checkCovers(t, p.f, p.g, p.covers)
		checkCovers(t, p.g, p.f, p.back)
		checkOverlap(t, p.f, p.f, true)
		checkCovers(t, p.f, p.f, true)
	}
}

func TestPlusAtAnyLevel(t *testing.T) {
	checkPairs(t, []pair{
		{"+", "a", true, true, false},
		{"+", "+", true, true, true},
		{"+/b/c", "a/b/c", true, true, false},
		{"a/+/c", "a/b/c", true, true, false},
		{"a/+/c", "a//c", true, true, false},
		{"a/b/+", "a/b/c", true, true, false},
		{"a/b/+", "a/b/", true, true, false},
		{"+/b/c", "a/+/c", true, false, false},
		{"a/+/c", "a/b/+", true, false, false},
		{"+/+/c", "a/b/+", true, false, false},
		{"+/+/c", "a/+/c", true, true, false},
		{"+/+/+", "a/+/c", true, true, false},
		{"+/b/c", "a/b/d", false, false, false},
		{"a/+/c", "b/+/c", false, false, false},
		{"a/+/c", "+/b/d", false, false, false},
		{"+/+", "/", true, true, false},
		{"/+", "+/", true, false, false},
		{"/+", "/", true, true, false},
		{"+/", "/", true, true, false},
		{"+/a", "/+", true, false, false},
		{"é/+", "+/€", true, false, false},
	})
}

func TestHashAtTheLast(t *testing.T) {
	checkPairs(t, []pair{
		{"#", "a", true, true, false},
		{"#", "/", true, true, false},
		{"#", "a/b/c", true, true, false},
		{"#", "#", true, true, true},
		{"a/#", "a", true, true, false},
		{"a/#", "a/", true, true, false},
		{"a/#", "a/b/c", true, true, false},
		{"a/#", "b", false, false, false},
		{"a/#", "ab", false, false, false},
		{"a/b/#", "a", false, false, false},
		{"a/b/#", "a/b", true, true, false},
		{"a/b/#", "a/#", true, false, true},
		{"a/b/#", "a/c/#", false, false, false},
		{"a/#", "+/b", true, false, false},
		{"a/#", "+/b/#", true, false, false},
		{"a/#", "+", true, false, false},
		{"a/b/#", "+", false, false, false},
		{"a/+/#", "a/b/#", true, true, false},
		{"a/+/#", "a/#", true, false, true},
		{"a/+/#", "a/+/+/#", true, true, false},
		{"a/+", "a/#", true, false, true},
		{"a/+", "a/+/#", true, false, true},
		{"a/+/+", "a/+/#", true, false, true},
		{"a/b", "a/b/#", true, false, true},
		{"+/#", "#", true, true, true},
		{"+/#", "+", true, true, false},
		{"+/+/#", "#", true, false, true},
		{"+/+/#", "+", false, false, false},
	})
}

// An empty text is no topic, though levels alone would let # leave one.
func TestNoTopicIsEmpty(t *testing.T) {
	checkPairs(t, []pair{
		{"/#", "+", false, false, false},
		{"/#", "a", false, false, false},
		{"/#", "+/+", true, false, false},
		{"/#", "/", true, true, false},
		{"/#", "/+", true, true, false},
		{"/#", "/+/#", true, true, true},
		{"/#", "/+/+", true, true, false},
		{"/#", "/+/+/#", true, true, false},
		{"/#", "//#", true, true, false},
		{"/#", "/a/#", true, true, false},
		{"/#", "#", true, false, true},
		{"/#", "+/#", true, false, true},
		{"/#", "+/+/#", true, false, true},
		{"/#", "+/+/+/#", true, false, false},
	})
}

func TestUnlikeNumbersOfLevels(t *testing.T) {
	checkPairs(t, []pair{
		{"+", "+/+", false, false, false},
		{"+", "/", false, false, false},
		{"a", "a/", false, false, false},
		{"a", "/a", false, false, false},
		{"a/+", "a", false, false, false},
		{"a/+", "a/b/c", false, false, false},
		{"+/+", "+/+/+", false, false, false},
		{"a/b/c/#", "a/+", false, false, false},
		{"a/b/c/#", "+/+/+/+/+", true, false, false},
	})
}

func TestDollarAtTheFirstByte(t *testing.T) {
	for _, f := range []string{"$", "$x", "$x/y", "$x/+", "$x/#", "$/", "$/#", "$share/g/#", "$+"} {
		for _, g := range []string{"+", "#", "+/+", "+/#", "+/y", "+/+/#", "+/g/#"} {
			checkOverlap(t, f, g, false)
			if plainFilter(f) {
				checkCovers(t, f, g, false)
				checkCovers(t, g, f, false)
			}
		}
	}
	checkPairs(t, []pair{
		{"$x", "$x", true, true, true},
		{"$x/#", "$x", true, true, false},
		{"$x/#", "$x/+", true, true, false},
		{"$x/+", "$x/y", true, true, false},
		{"$x/+", "$x/#", true, false, true},
		{"$x/#", "$y/#", false, false, false},
		{"$/#", "$x", false, false, false},
		{"$/+", "$/x", true, true, false},
		// Behind the first byte it is a character like others.
		{"a/$x", "+/+", true, false, true},
		{"a/$x", "a/#", true, false, true},
		{"/$x", "/+", true, false, true},
		{"/$x", "/#", true, false, true},
		{"/$x", "#", true, false, true},
		{"a$", "+", true, false, true},
	})
}

// noFilters are texts that are none.
func noFilters() []string {
	return []string{
		"", "a+", "+a", "++", "a/b+", "a#", "#a", "##", "#/", "#/a", "a/#/b", "a/#/", "#/#", "+#", "+/#/+",
		"\x00", "\xff", "a/\xc3", "\xc3/\xa9", "\xed\xa0\x80/#", "\x00/#", "+/\xff",
		strings.Repeat("a", api.MaxTopic+1), strings.Repeat("a", api.MaxTopic-1) + "/#", strings.Repeat("a", 1<<20),
		strings.Repeat("/", api.MaxLevels), strings.Repeat("+/", api.MaxLevels) + "+", strings.Repeat("+/", api.MaxLevels) + "#", strings.Repeat("/", 1<<20),
	}
}

func TestOfNoFilters(t *testing.T) {
	others := append(noFilters(), "a", "+", "#", "/", "/#", "+/+", "+/#", "a/#", "$x", "\ufffd", "\ufffd/#", strings.Repeat("a", api.MaxTopic), strings.Repeat("/", api.MaxLevels-1))
	for _, f := range noFilters() {
		for _, g := range others {
			checkOverlap(t, f, g, false)
			for _, p := range [][2]string{{f, g}, {g, f}} {
				if Covers(p[0], p[1]) {
					t.Errorf("Covers(%.40q, %.40q)", p[0], p[1])
				}
				if s, ok := Gap(p[0], p[1]); s != "" || ok {
					t.Errorf("Gap(%.40q, %.40q) = %.40q, %v", p[0], p[1], s, ok)
				}
			}
		}
	}
}

func TestOfMaxTopicBytes(t *testing.T) {
	most := strings.Repeat("x", api.MaxTopic)
	wide := strings.Repeat("é", api.MaxTopic/2)
	checkPairs(t, []pair{
		{most, most, true, true, true},
		{most, "+", true, false, true},
		{most, "#", true, false, true},
		{most, most[1:], false, false, false},
		{most, most[1:] + "y", false, false, false},
		{most, wide, false, false, false},
		{wide, "+/#", true, false, true},
		{most[2:] + "/#", most[2:] + "/#", true, true, true},
		{most[2:] + "/#", most[2:], true, true, false},
		{most[2:] + "/#", most, false, false, false},
		{most[2:] + "/+", most[2:] + "/#", true, false, true},
		{most[2:] + "/#", "+", true, false, false},
		{"+/" + most[2:], "#", true, false, true},
	})
}

// What both match may be longer than a topic's name.
func TestWitnessBeyondMaxTopic(t *testing.T) {
	x, y := strings.Repeat("x", api.MaxTopic-2), strings.Repeat("y", api.MaxTopic-2)
	checkPairs(t, []pair{
		{x + "/+", "+/" + y, true, false, false},
		{x + "/#", "+/" + y, true, false, false},
		{x + "/+", "+/" + y[2:] + "/#", true, false, false},
		{x + "/+", "+/" + y[2:] + "/+", false, false, false},
	})
	if s, ok := Witness(x+"/+", "+/"+y); s != x+"/"+y || !ok {
		t.Errorf("Witness of long filters = %.600q, %v", s, ok)
	}
	// The one names half of MaxLevels levels, the other one the other half.
	half, plus := strings.Repeat("/1234567890abc", api.MaxLevels/2)[1:], strings.Repeat("/+", api.MaxLevels/2)[1:]
	checkPairs(t, []pair{
		{plus + "/" + half, half + "/" + plus, true, false, false},
		{plus + "/" + half, half + "/#", true, false, false},
		{plus + "/" + half, plus + "/" + plus, true, false, true},
	})
}

func TestOfMaxLevels(t *testing.T) {
	deep, plus := strings.Repeat("a/", api.MaxLevels-1), strings.Repeat("+/", api.MaxLevels-1)
	none := strings.Repeat("/", api.MaxLevels-1)
	checkPairs(t, []pair{
		{deep + "a", plus + "+", true, false, true},
		{deep + "a", plus + "a", true, false, true},
		{deep + "a", plus + "b", false, false, false},
		{deep + "a", plus + "#", true, false, true},
		{deep + "a", deep + "b", false, false, false},
		{deep + "+", plus + "a", true, false, false},
		{deep + "#", deep + "+", true, true, false},
		{deep + "#", deep + "a", true, true, false},
		{deep + "#", strings.TrimSuffix(deep, "/"), true, true, false},
		{deep + "#", "a/#", true, false, true},
		{plus + "#", "#", true, false, true},
		{plus + "#", plus + "+", true, true, false},
		{plus + "+", "+/#", true, false, true},
		{plus + "+", none, true, true, false},
		{plus + "+", strings.TrimSuffix(plus, "/"), false, false, false},
		{none, deep + "a", false, false, false},
		{none + "#", none, true, true, false},
		{none + "#", "/#", true, false, true},
	})
}

// A gap needs a level that the first filter doesn't name, whatever this one names.
func TestGapOfManyNamedLevels(t *testing.T) {
	for first := 1; first < 128; first++ {
		var levels []string
		for c := first; len(levels) < api.MaxLevels; c++ {
			if c != '#' && c != '+' && c != '/' {
				levels = append(levels, string(rune(c)))
			}
		}
		f := strings.Join(levels, "/")
		checkCovers(t, f, strings.Repeat("+/", api.MaxLevels-1)+"+", false)
		for at, named := range levels {
			levels[at] = "+"
			g := strings.Join(levels, "/")
			levels[at] = named
			checkCovers(t, f, g, false)
			// One that begins with $ isn't matched by what begins with +.
			checkCovers(t, g, f, at > 0 || named != "$")
		}
	}
}

// madeName tells the levels of a topic, by chance.
func madeName(r *rand.Rand) []string {
	pieces := []string{"", "a", "bc", "é", "$x", "0123456789"}
	levels := []string{"n"}
	if r.IntN(4) == 0 {
		levels[0] = "$n"
	}
	for range 1 + r.IntN(21) {
		levels = append(levels, pieces[r.IntN(len(pieces))])
	}
	return levels
}

// widened tells the levels of a filter that matches a topic, by chance.
func widened(r *rand.Rand, name []string) []string {
	levels := slices.Clone(name)
	if r.IntN(2) == 0 {
		levels = append(levels[:1+r.IntN(len(levels))], "#")
	}
	for i, level := range levels {
		if level != "#" && level[:min(i+1, len(level))] != "$" && r.IntN(2) == 0 {
			levels[i] = "+"
		}
	}
	return levels
}

// changed tells the text of these levels with another one at that place.
func changed(levels []string, at int, level string) string {
	other := slices.Clone(levels)
	other[at] = level
	return strings.Join(other, "/")
}

func TestMadeFilters(t *testing.T) {
	r := rand.New(rand.NewPCG(8, 2))
	narrowed, parted := 0, 0
	for range 5000 {
		name := madeName(r)
		first, second := widened(r, name), widened(r, name)
		f, g, whole := strings.Join(first, "/"), strings.Join(second, "/"), strings.Join(name, "/")
		checkOverlap(t, f, g, true)
		checkOverlap(t, f, whole, true)
		checkCovers(t, f, whole, true)
		for at, level := range first {
			if level == "+" {
				// A level that is named takes less.
				narrow := changed(first, at, "b")
				checkCovers(t, f, narrow, true)
				checkCovers(t, narrow, f, false)
				narrowed++
			} else if level != "#" && at < len(second) && second[at] == level {
				// A level that both name, each another one, parts them.
				other := changed(first, at, level+"b")
				checkOverlap(t, other, g, false)
				checkCovers(t, other, g, false)
				checkCovers(t, g, other, false)
				parted++
			}
		}
	}
	if narrowed < 10000 || parted < 10000 {
		t.Errorf("%d are narrowed, %d parted", narrowed, parted)
	}
}
