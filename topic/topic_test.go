package topic

import (
	"slices"
	"strings"
	"testing"
	"unsafe"

	"aqueduct/api"
)

// Of P7.1.

func checkLevels(t *testing.T, s string, want []string) {
	t.Helper()
	got := Levels(s)
	if !slices.Equal(got, want) {
		t.Errorf("Levels(%.40q) = %.80q, want %.80q", s, got, want)
	}
	if back := Join(got); back != s {
		t.Errorf("Join of the levels of %.40q = %.40q", s, back)
	}
}

func TestLevels(t *testing.T) {
	for _, c := range []struct {
		s      string
		levels []string
	}{
		{"", []string{""}},
		{"a", []string{"a"}},
		{"sensor temperature", []string{"sensor temperature"}},
		{"a/b/c", []string{"a", "b", "c"}},
		{"/", []string{"", ""}},
		{"//", []string{"", "", ""}},
		{"/a", []string{"", "a"}},
		{"a/", []string{"a", ""}},
		{"//a", []string{"", "", "a"}},
		{"a//", []string{"a", "", ""}},
		{"a//b", []string{"a", "", "b"}},
		{"/a///b/", []string{"", "a", "", "", "b", ""}},
		{"+/#", []string{"+", "#"}},
		{"#/a+/b", []string{"#", "a+", "b"}},
		{"$SYS/x", []string{"$SYS", "x"}},
		{"é/€/𝄞", []string{"é", "€", "𝄞"}},
		{"a\\b/c.d", []string{"a\\b", "c.d"}},
		{"\x00/\xff", []string{"\x00", "\xff"}},
		{"\xc3/\xa9", []string{"\xc3", "\xa9"}},
		{"a\xe2\x82/\x80/", []string{"a\xe2\x82", "\x80", ""}},
	} {
		checkLevels(t, c.s, c.levels)
	}
}

func TestLevelsOfAnyBytes(t *testing.T) {
	for b := range 256 {
		s := string([]byte{byte(b)})
		if s == "/" {
			continue
		}
		checkLevels(t, s, []string{s})
		checkLevels(t, s+"/"+s+s, []string{s, s + s})
	}
}

func TestLevelsBeyondTheLimits(t *testing.T) {
	for _, n := range []int{api.MaxLevels - 1, api.MaxLevels, api.MaxLevels + 1, 1000, 1 << 20} {
		empty := Levels(strings.Repeat("/", n-1))
		if len(empty) != n || slices.ContainsFunc(empty, func(s string) bool { return s != "" }) {
			t.Errorf("of %d slashes there are %d levels", n-1, len(empty))
		}
	}
	long := strings.Repeat("a", 1<<20)
	checkLevels(t, long+"/"+long, []string{long, long})
}

func TestJoin(t *testing.T) {
	for _, c := range []struct {
		l    []string
		want string
	}{
		{nil, ""},
		{[]string{}, ""},
		{[]string{""}, ""},
		{[]string{"a"}, "a"},
		{[]string{"a/b"}, "a/b"},
		{[]string{"/"}, "/"},
		{[]string{"\xff\x00"}, "\xff\x00"},
		{[]string{"a", "b"}, "a/b"},
		{[]string{"a", "b", "c"}, "a/b/c"},
		{[]string{"", ""}, "/"},
		{[]string{"", "", ""}, "//"},
		{[]string{"", "a"}, "/a"},
		{[]string{"a", ""}, "a/"},
		{[]string{"a", "", "b"}, "a//b"},
		{[]string{"a/b", "c"}, "a/b/c"},
		{[]string{"/", "/"}, "///"},
		{[]string{"a/", "/b"}, "a///b"},
		{[]string{"+", "#", "$"}, "+/#/$"},
		{[]string{"\xc3", "\xa9"}, "\xc3/\xa9"},
	} {
		before := slices.Clone(c.l)
		if got := Join(c.l); got != c.want {
			t.Errorf("Join(%q) = %q, want %q", c.l, got, c.want)
		}
		if !slices.Equal(c.l, before) {
			t.Errorf("Join changed %q to %q", before, c.l)
		}
	}
	if got := Join(make([]string, 1<<20)); got != strings.Repeat("/", 1<<20-1) {
		t.Errorf("Join of many empty pieces has %d bytes", len(got))
	}
	behind := []string{"a", "b", "c"}
	if got := Join(behind[:2]); got != "a/b" {
		t.Errorf("Join of a list with more behind it = %q", got)
	}
}

// Of DOC.md's rule 4: an answer is new memory.

func TestAnswersAreNewMemory(t *testing.T) {
	for _, s := range []string{"abc", "a/b/c"} {
		if unsafe.StringData(Levels(s)[0]) == unsafe.StringData(s) {
			t.Errorf("what Levels answers of %q shares the argument's memory", s)
		}
	}
	for _, l := range [][]string{{"abc"}, {"abc", "d"}} {
		if unsafe.StringData(Join(l)) == unsafe.StringData(l[0]) {
			t.Errorf("what Join answers of %q shares the argument's memory", l)
		}
	}
	first, second := Levels("a/b"), Levels("a/b")
	first[0] = "x"
	if second[0] != "a" {
		t.Error("two answers of Levels share their memory")
	}
}

// Of P7.2.

func TestNamesAndFilters(t *testing.T) {
	for _, s := range []string{
		"a", "A", " ", "/", "//", "/a", "a/", "a//b", "sensor temperature/1", "é", "é/€/𝄞", "\x01", "\x7f", "\ufffd", "\ufeff", "\uffff", "＋", "a/＃",
		"$", "$SYS", "$SYS/x", "$/", "a/$x", "$share/group/a", "$share", "$$",
	} {
		checkChecks(t, s, true, true)
	}
}

func TestFiltersThatAreNoNames(t *testing.T) {
	for _, s := range []string{
		"+", "#", "+/", "/+", "/#", "+/#", "+/+", "+/+/+", "a/+", "a/#", "+/a", "+/a/#", "a/+/b", "a/+/#", "a//#", "//+", "é/+", "é/#",
		"$SYS/+", "$SYS/#", "$SYS/+/#", "$/#", "$share/group/+", "$share/+/#", "+/$x",
	} {
		checkChecks(t, s, false, true)
	}
}

func TestNeitherNamesNorFilters(t *testing.T) {
	for _, s := range []string{
		"",
		"a+", "+a", "a+b", "++", "a/b+", "a/+b", "a+/b", "++/a", "/++/", "é+", "+é", " +", "+ ", "$+",
		"a#", "#a", "##", "a/b#", "a/#b", "a/##", "é#", "# ", " #", "$#",
		"#/", "#/a", "#/#", "#/+", "a/#/", "a/#/b", "a/#/#", "/#/", "+/#/+", "//#//", "$SYS/#/x",
		"+#", "#+", "a/+#", "a/#+", "+#/a", "#+/a", "a+/#", "a#/+",
	} {
		checkChecks(t, s, false, false)
	}
}

func TestBytesThatAreNoText(t *testing.T) {
	for _, s := range []string{"\x00", "\x80", "\xbf", "\xc0\x80", "\xc3", "\xe2\x82", "\xed\xa0\x80", "\xed\xbf\xbf", "\xf0\x9d\x84", "\xf4\x90\x80\x80", "\xf5\x80\x80\x80", "\xff", "\xc3/\xa9"} {
		for _, whole := range []string{s, "a" + s, s + "a", "a/" + s, s + "/a", "a/" + s + "/b", "+/" + s, s + "/#", "$" + s} {
			checkChecks(t, whole, false, false)
		}
	}
}

func TestHowManyBytes(t *testing.T) {
	for _, n := range []int{1, 2, api.MaxTopic - 1, api.MaxTopic} {
		checkChecks(t, strings.Repeat("a", n), true, true)
	}
	for _, n := range []int{api.MaxTopic + 1, api.MaxTopic + 2, 2 * api.MaxTopic, api.MaxText, api.MaxText + 1, 1 << 20} {
		checkChecks(t, strings.Repeat("a", n), false, false)
	}
	// Bytes are counted, not characters.
	checkChecks(t, strings.Repeat("é", api.MaxTopic/2), true, true)
	checkChecks(t, strings.Repeat("é", api.MaxTopic/2)+"a", false, false)
	checkChecks(t, strings.Repeat("𝄞", api.MaxTopic/4), true, true)
	checkChecks(t, strings.Repeat("𝄞", api.MaxTopic/4+1), false, false)
	most := strings.Repeat("a", api.MaxTopic-2)
	for _, s := range []string{most + "/+", most + "/#", "+/" + most} {
		checkChecks(t, s, false, true)
		checkChecks(t, "a"+s, false, false)
	}
	checkChecks(t, "a"+most+"/#", false, false)
	checkChecks(t, "+/a"+most, false, false)
}

func TestHowManyLevels(t *testing.T) {
	for _, level := range []string{"", "a", "$x", "é"} {
		most := strings.Repeat(level+"/", api.MaxLevels-1)
		checkChecks(t, most+level, true, true)
		checkChecks(t, most+"a", true, true)
		checkChecks(t, most+"+", false, true)
		checkChecks(t, most+"#", false, true)
		for _, last := range []string{"", "a", "+", "#"} {
			checkChecks(t, most+level+"/"+last, false, false)
			checkChecks(t, "a/"+most+last, false, false)
		}
	}
	checkChecks(t, strings.Repeat("/", api.MaxLevels-1), true, true)
	checkChecks(t, strings.Repeat("/", api.MaxLevels), false, false)
	checkChecks(t, strings.Repeat("+/", api.MaxLevels-1)+"+", false, true)
	checkChecks(t, strings.Repeat("+/", api.MaxLevels)+"+", false, false)
	checkChecks(t, strings.Repeat("/", 1<<20), false, false)
	checkChecks(t, strings.Repeat("#", 1<<20), false, false)
}

// Of P7.3.

func TestExamples(t *testing.T) {
	checkMatch(t, "a/+/c", "a/b/c", true)
	checkMatch(t, "a/+/c", "a//c", true)
	checkMatch(t, "a/#", "a", true)
	checkMatch(t, "a/#", "a/", true)
	checkMatch(t, "a/#", "a/b/c", true)
	checkMatch(t, "#", "$SYS/x", false)
	checkMatch(t, "$SYS/#", "$SYS/x", true)
}

func TestFiltersWithoutWildcards(t *testing.T) {
	names := []string{"a", "A", "b", "ab", "/", "//", "/a", "a/", "a/b", "a/B", "b/a", "a//b", "/a/b", "a/b/", "a/b/c", "é", "e\u0301", "$", "$SYS", "$SYS/x", "x/$SYS", " a", "a "}
	for _, filter := range names {
		for _, name := range names {
			checkMatch(t, filter, name, filter == name)
		}
	}
}

func TestPlusMatchesOneLevel(t *testing.T) {
	for _, c := range []struct {
		filter    string
		yes, none []string
	}{
		{"+", []string{"a", "abc", "é", " ", "a$"}, []string{"/", "/a", "a/", "a/b", "$", "$a"}},
		{"+/", []string{"/", "a/"}, []string{"a", "/a", "a/b", "a//", "$/"}},
		{"/+", []string{"/", "/a", "/$x"}, []string{"a", "a/", "a/b", "//", "/a/b"}},
		{"+/+", []string{"/", "/a", "a/", "a/b", "a/$x", "/$x"}, []string{"a", "//", "a/b/", "a/b/c", "$/", "$x/b"}},
		{"a/+", []string{"a/", "a/b", "a/$x"}, []string{"a", "b/b", "ab", "ab/c", "/a", "a//", "a/b/", "a/b/c"}},
		{"+/b", []string{"a/b", "/b"}, []string{"b", "a/c", "a/b/", "a/a/b", "$a/b", "a/bb"}},
		{"a/+/c", []string{"a/b/c", "a//c", "a/c/c"}, []string{"a/c", "a/b", "a/b/b/c", "a/b/d", "b/b/c", "a/b/c/d", "a//", "A/b/c"}},
		{"+/b/+", []string{"a/b/c", "/b/", "b/b/b"}, []string{"a/c/c", "b", "a/b", "b/c", "$a/b/c", "a/b/c/"}},
		{"$SYS/+", []string{"$SYS/x", "$SYS/", "$SYS/$y"}, []string{"$SYS", "SYS/x", "$SYS/x/y", "$SYSx"}},
	} {
		checkAll(t, c.filter, c.yes, c.none)
	}
}

func TestHashMatchesAllThatIsLeft(t *testing.T) {
	for _, c := range []struct {
		filter    string
		yes, none []string
	}{
		{"#", []string{"a", "/", "//", "/a", "a/", "a/b/c", "a/$x", "/$x", "é"}, []string{"$", "$SYS", "$SYS/x", "$/"}},
		{"/#", []string{"/", "/a", "//", "/a/b", "/$x"}, []string{"a", "a/", "a/b", "$/"}},
		{"a/#", []string{"a", "a/", "a//", "a/b", "a/b/c", "a/$x"}, []string{"ab", "b", "/a", "b/a", "ab/c", "A", "$a"}},
		{"a//#", []string{"a/", "a//", "a//b", "a//b/c"}, []string{"a", "a/b", "a/b/c", "//"}},
		{"a/b/#", []string{"a/b", "a/b/", "a/b/c", "a/b/c/d"}, []string{"a", "a/", "a/bb", "a/c", "b/b", "a//b"}},
		{"+/#", []string{"a", "/", "/a", "a/", "a/b/c"}, []string{"$", "$SYS", "$SYS/x"}},
		{"+/+/#", []string{"/", "a/b", "a/", "/a", "a/b/c/d"}, []string{"a", "$SYS/x"}},
		{"a/+/#", []string{"a/", "a/b", "a/b/c", "a//"}, []string{"a", "b/b", "ab"}},
		{"+/b/#", []string{"a/b", "/b", "a/b/c"}, []string{"b", "a", "a/c", "$a/b", "$a/b/c"}},
		{"$SYS/#", []string{"$SYS", "$SYS/", "$SYS/x", "$SYS/x/y"}, []string{"$SYSx", "SYS/x", "$", "$sys/x"}},
		{"$/#", []string{"$", "$/", "$/a"}, []string{"$a", "$SYS/x", "a"}},
	} {
		checkAll(t, c.filter, c.yes, c.none)
	}
}

func checkAll(t *testing.T, filter string, yes, none []string) {
	t.Helper()
	for _, name := range yes {
		checkMatch(t, filter, name, true)
	}
	for _, name := range none {
		checkMatch(t, filter, name, false)
	}
}

func TestSharedSubscriptionsAreFiltersLikeOthers(t *testing.T) {
	checkMatch(t, "$share/g/a", "a", false)
	checkMatch(t, "$share/g/a", "$share/g/a", true)
	checkMatch(t, "$share/g/#", "a", false)
	checkMatch(t, "$share/g/#", "$share/g", true)
	checkMatch(t, "$share/+/a", "$share/g/a", true)
}

func TestMatchOfWhatIsNone(t *testing.T) {
	long := strings.Repeat("a", api.MaxTopic+1)
	deep := strings.Repeat("/", api.MaxLevels)
	names := []string{"", "+", "#", "a/+", "a/#", "a+", "a#", "+/#", "\x00", "\xff", "a/\xc3", "$SYS/#", long, deep}
	for _, name := range names {
		for _, filter := range []string{name, "#", "+", "+/+", "+/#", "a/#", "a/+", "/#", "a", "", "$SYS/#", "$SYS/+"} {
			checkMatch(t, filter, name, false)
		}
	}
	filters := []string{"", "a+", "+a", "a#", "#a", "#/", "#/a", "#/#", "a/#/", "a/#/b", "++", "##", "+#", "\x00", "\xff", "a/\xc3", "\xff/#", long, deep, deep + "#", deep + "+"}
	for _, filter := range filters {
		for _, name := range []string{filter, "a", "aa", "/", "/a", "a/", "a/a", "a/a/b", "a/b", "", "$SYS/x"} {
			checkMatch(t, filter, name, false)
		}
	}
}

func TestMatchAtTheLimits(t *testing.T) {
	long := strings.Repeat("a", api.MaxTopic)
	for _, filter := range []string{long, "+", "#", "+/#"} {
		checkMatch(t, filter, long, true)
		checkMatch(t, filter, long+"a", false)
	}
	checkMatch(t, long[2:]+"/#", long[2:], true)
	checkMatch(t, long[1:]+"/#", long[1:], false)
	deep := strings.Repeat("a/", api.MaxLevels-1)
	plus := strings.Repeat("+/", api.MaxLevels-1)
	for _, filter := range []string{deep + "a", deep + "+", deep + "#", plus + "+", plus + "#", plus + "a", "#", "a/#"} {
		checkMatch(t, filter, deep+"a", true)
		checkMatch(t, filter, deep+"a/a", false)
		checkMatch(t, filter+"/a", deep+"a/a", false)
	}
	checkMatch(t, deep+"#", strings.TrimSuffix(deep, "/"), true)
	checkMatch(t, deep+"+", strings.TrimSuffix(deep, "/"), false)
	checkMatch(t, deep+"a/#", deep+"a", false)
	checkMatch(t, deep+"a", deep+"b", false)
}
