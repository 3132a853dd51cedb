package remap

import (
	"math"
	"slices"
	"strings"
	"testing"

	"aqueduct/api"
)

// notGood are rules of which each has one thing wrong; else they would take all topics.
func notGood() []Rule {
	return []Rule{
		{"", Out, 2, "", ""}, {"a#", Both, 2, "", ""}, {strings.Repeat("a", api.MaxTopic+1), Out, 2, "", ""},
		{"#", Out, 2, "+", ""}, {"#", Both, 2, "", "a/#"}, {"#", Out, 2, "", "\xff"},
		{"#", -1, 2, "", ""}, {"#", 3, 2, "", ""}, {"#", math.MinInt, 2, "", ""}, {"#", math.MaxInt, 2, "", ""},
		{"#", Out, -1, "", ""}, {"#", Both, 3, "", ""}, {"#", Out, math.MinInt, "", ""}, {"#", Out, math.MaxInt, "", ""},
	}
}

// Of P10.3.

func wantRoute(t *testing.T, rules []Rule, name string, qos int, want ...Hop) {
	t.Helper()
	if got := Route(rules, name, qos); !slices.Equal(got, want) {
		t.Errorf("Route of %s, %.300q, %d = %s, not %s", shown(rules), name, qos, shown(got), shown(want))
	}
}

func TestRouteOfNoRules(t *testing.T) {
	for _, name := range []string{"a", "", "+", "\xff", strings.Repeat("a", 1<<20)} {
		for _, qos := range []int{0, 1, 2, -1, math.MinInt, math.MaxInt} {
			wantRoute(t, nil, name, qos)
			wantRoute(t, []Rule{}, name, qos)
		}
	}
}

func TestRouteOfRulesThatTakeNothing(t *testing.T) {
	wantRoute(t, notGood(), "a", 2)
	wantRoute(t, []Rule{{"#", In, 2, "", ""}, {"b", Out, 2, "", ""}, {"#", Both, 2, "b", ""}, {}}, "a", 2)
	for _, name := range []string{"", "+", "a/#", "\xff", strings.Repeat("a", api.MaxTopic+1), strings.Repeat("/", api.MaxLevels)} {
		wantRoute(t, []Rule{{"#", Out, 2, "", ""}, {"+", Both, 2, "", ""}}, name, 2)
	}
}

func TestRouteTellsPlacesInOrder(t *testing.T) {
	rules := []Rule{
		{"#", Out, 2, "", "z/"},
		{"a", Out, 2, "", ""},
		{"#", In, 2, "", "y/"},
		{"#", Both, 2, "a/", "x/"},
		{"+/+", Both, 2, "", ""},
		{"#", Out, 2, "", ""},
	}
	wantRoute(t, rules, "a/b", 2, Hop{0, "z/a/b", 2}, Hop{3, "x/b", 2}, Hop{4, "a/b", 2}, Hop{5, "a/b", 2})
	wantRoute(t, rules, "a", 2, Hop{0, "z/a", 2}, Hop{1, "a", 2}, Hop{5, "a", 2})
	wantRoute(t, rules, "$SYS", 2)
	wantRoute(t, rules[4:], "a/b", 2, Hop{0, "a/b", 2}, Hop{1, "a/b", 2})
	slices.Reverse(rules)
	wantRoute(t, rules, "a/b", 2, Hop{0, "a/b", 2}, Hop{1, "a/b", 2}, Hop{2, "x/b", 2}, Hop{5, "z/a/b", 2})
}

func TestRouteAmongRulesThatAreNotGood(t *testing.T) {
	var rules []Rule
	var want []Hop
	for _, bad := range notGood() {
		rules = append(rules, bad, Rule{"#", Out, 1, "", "r/"})
		want = append(want, Hop{len(rules) - 1, "r/a", 1})
	}
	wantRoute(t, rules, "a", 2, want...)
	wantRoute(t, append(rules, notGood()...), "a", 2, want...)
}

func TestRouteOfOneRuleSeveralTimes(t *testing.T) {
	r, other := Rule{"#", Both, 1, "l/", "r/"}, Rule{"#", Out, 2, "", "o/"}
	wantRoute(t, []Rule{r, r}, "l/a", 1, Hop{0, "r/a", 1}, Hop{1, "r/a", 1})
	wantRoute(t, []Rule{r, other, r, r}, "l/a", 2, Hop{0, "r/a", 1}, Hop{1, "o/l/a", 2}, Hop{2, "r/a", 1}, Hop{3, "r/a", 1})
}

func TestRouteTellsTheLesserQoS(t *testing.T) {
	for _, qos := range []int{math.MinInt, math.MinInt + 1, -1, 0, 1, 2, 3, 255, 256, 1 << 32, math.MaxInt} {
		var rules []Rule
		var want []Hop
		for own := range 3 {
			least := own
			if qos < own {
				least = qos
			}
			rules = append(rules, Rule{"#", Out, own, "", ""})
			want = append(want, Hop{own, "a", least})
		}
		wantRoute(t, rules, "a", qos, want...)
	}
}

func TestRouteOfManyRules(t *testing.T) {
	var rules []Rule
	var want []Hop
	for n := range 1000 {
		rules = append(rules, Rule{"#", Direction(n % 4), n % 3, "", "r/"})
		if n%4 == 0 || n%4 == 2 {
			want = append(want, Hop{n, "r/a", min(1, n%3)})
		}
	}
	wantRoute(t, rules, "a", 1, want...)
}

func TestRouteIsNewMemory(t *testing.T) {
	name := strings.Clone("l/a")
	rules := []Rule{{"#", Out, 2, "", ""}, {"#", Both, 1, "l/", "r/"}, {"#", Out, 0, "l/", ""}, {"#", Out, 2, "", ""}}
	before := slices.Clone(rules)
	first, second := Route(rules, name, 2), Route(rules, name, 2)
	want := slices.Clone(second)
	places := map[*byte]int{}
	for _, h := range append(slices.Clone(first), second...) {
		places[at(h.Topic)]++
		if within(h.Topic, name) {
			t.Errorf("%v stands in the name", h)
		}
	}
	if len(places) != 8 {
		t.Error("topics share memory")
	}
	clear(first[:cap(first)])
	if !slices.Equal(second, want) || !slices.Equal(Route(rules, name, 2), want) {
		t.Error("answers share memory")
	}
	if !slices.Equal(rules, before) {
		t.Error("the list isn't as it was")
	}
}

// What lies behind a list's length is neither read nor written.
func TestWhatLiesBehindTheList(t *testing.T) {
	good, bad := Rule{"#", Out, 1, "", "r/"}, Rule{"", 7, 9, "+", "#"}
	for _, behind := range []Rule{good, bad} {
		memory := []Rule{good, good, behind, behind}
		before := slices.Clone(memory)
		wantRoute(t, memory[:2], "a", 2, Hop{0, "r/a", 1}, Hop{1, "r/a", 1})
		wantRoute(t, memory[:0], "a", 2)
		wantCompose(t, memory[:2], "a", 2, "r/r/a", 1)
		wantCompose(t, memory[:0], "a", 2, "a", 2)
		if !slices.Equal(memory, before) {
			t.Error("the list isn't as it was")
		}
	}
}

// Of P10.4.

// wantCompose holds what Compose answers against a topic and a QoS; the empty text stands for false.
func wantCompose(t *testing.T, rules []Rule, name string, qos int, want string, wantQoS int) {
	t.Helper()
	s, q, ok := Compose(rules, name, qos)
	if s != want || q != wantQoS || ok != (want != "") {
		t.Errorf("Compose of %s, %.300q, %d = %.300q, %d, %v, not %.300q, %d", shown(rules), name, qos, s, q, ok, want, wantQoS)
	}
}

func TestComposeOfNoRules(t *testing.T) {
	for _, name := range []string{"a", "/", "$SYS/x", "é", strings.Repeat("a", api.MaxTopic), strings.Repeat("/", api.MaxLevels-1)} {
		for _, qos := range []int{0, 1, 2, 3, -1, math.MinInt, math.MaxInt} {
			wantCompose(t, nil, name, qos, name, qos)
			wantCompose(t, []Rule{}, name, qos, name, qos)
		}
	}
	for _, name := range []string{"", "+", "a/#", "a+", "\x00", "\xff", strings.Repeat("a", api.MaxTopic+1), strings.Repeat("/", api.MaxLevels), strings.Repeat("a", 1<<20)} {
		for _, qos := range []int{0, 2, -1, math.MinInt, math.MaxInt} {
			wantCompose(t, nil, name, qos, "", 0)
			wantCompose(t, []Rule{}, name, qos, "", 0)
			wantCompose(t, []Rule{{"#", Out, 1, "", ""}}, name, qos, "", 0)
			wantCompose(t, []Rule{{"+", Out, 1, "", "r/"}, {"#", Out, 1, "", ""}}, name, qos, "", 0)
		}
	}
}

func TestComposeOfOneRule(t *testing.T) {
	r := Rule{"t/#", Out, 1, "l/", "r/"}
	wantCompose(t, []Rule{r}, "l/t/x", 2, "r/t/x", 1)
	wantCompose(t, []Rule{r}, "l/t/x", 0, "r/t/x", 0)
	wantCompose(t, []Rule{r}, "t/x", 2, "", 0)
	r.Dir = Both
	wantCompose(t, []Rule{r}, "l/t/x", 2, "r/t/x", 1)
	r.Dir = In
	wantCompose(t, []Rule{r}, "l/t/x", 2, "", 0)
	wantCompose(t, []Rule{r}, "r/t/x", 2, "", 0)
	for _, bad := range notGood() {
		wantCompose(t, []Rule{bad}, "a", 2, "", 0)
	}
}

func TestComposeGoesOnWithWhatTheRuleAheadMakes(t *testing.T) {
	x, y, z := Rule{"#", Out, 2, "", "x/"}, Rule{"x/#", Both, 2, "", "y/"}, Rule{"a", Out, 2, "y/x/", "z/"}
	wantCompose(t, []Rule{x}, "a", 2, "x/a", 2)
	wantCompose(t, []Rule{x, y}, "a", 2, "y/x/a", 2)
	wantCompose(t, []Rule{x, y, z}, "a", 2, "z/a", 2)
	wantCompose(t, []Rule{x, x, x}, "a", 2, "x/x/x/a", 2)
	// In another order they don't take it.
	wantCompose(t, []Rule{x, z, y}, "a", 2, "", 0)
	wantCompose(t, []Rule{y, x, z}, "a", 2, "", 0)
	wantCompose(t, []Rule{z, y, x}, "a", 2, "", 0)
	// There and back.
	r := Rule{"#", Both, 2, "l/", "r/"}
	wantCompose(t, []Rule{r, r.Flip()}, "l/a", 2, "l/a", 2)
	wantCompose(t, []Rule{r, r.Flip(), r}, "l/a", 2, "r/a", 2)
	wantCompose(t, []Rule{r, r}, "l/a", 2, "", 0)
}

func TestComposeOfARuleThatTakesNothing(t *testing.T) {
	good := Rule{"#", Out, 1, "", ""}
	bad := append(notGood(), Rule{"a/b/+", Out, 2, "", ""}, Rule{"#", In, 2, "", ""}, Rule{"#", Both, 2, "b/", ""}, Rule{"#", Both, 2, "a/b", ""},
		Rule{"#", Out, 2, "", strings.Repeat("r", api.MaxTopic-2)}, Rule{"#", Out, 2, "", strings.Repeat("/", api.MaxLevels-1)}, Rule{})
	for _, r := range bad {
		for place := range 3 {
			rules := []Rule{good, good, good}
			wantCompose(t, rules, "a/b", 2, "a/b", 1)
			rules[place] = r
			wantCompose(t, rules, "a/b", 2, "", 0)
			wantCompose(t, rules, "a/b", math.MinInt, "", 0)
		}
	}
}

func TestComposeUntilTopicsAreTooLong(t *testing.T) {
	x, slash := Rule{"#", Out, 2, "", "x"}, Rule{"#", Out, 2, "", "/"}
	for n := range 300 {
		longer, deeper := slices.Repeat([]Rule{x}, n), slices.Repeat([]Rule{slash}, n)
		if n < api.MaxTopic {
			wantCompose(t, longer, "a", 2, strings.Repeat("x", n)+"a", 2)
		} else {
			wantCompose(t, longer, "a", 2, "", 0)
		}
		if n < api.MaxLevels {
			wantCompose(t, deeper, "a", 2, strings.Repeat("/", n)+"a", 2)
		} else {
			wantCompose(t, deeper, "a", 2, "", 0)
		}
	}
}

func TestComposeTellsTheLeastQoS(t *testing.T) {
	for _, qos := range []int{math.MinInt, -1, 0, 1, 2, 3, 1 << 32, math.MaxInt} {
		for a := range 3 {
			for b := range 3 {
				for c := range 3 {
					rules := []Rule{{"#", Out, a, "", "r/"}, {"#", Both, b, "", ""}, {"#", Out, c, "r/", ""}}
					wantCompose(t, rules[:1], "a", qos, "r/a", least(qos, a))
					wantCompose(t, rules[:2], "a", qos, "r/a", least(qos, a, b))
					wantCompose(t, rules, "a", qos, "a", least(qos, a, b, c))
				}
			}
		}
	}
}

func least(l ...int) int {
	slices.Sort(l)
	return l[0]
}

func TestComposedTopicsAreNewMemory(t *testing.T) {
	name := strings.Clone("l/a")
	for _, rules := range [][]Rule{nil, {{"#", Out, 2, "", ""}}, {{"#", Out, 2, "l/", ""}}, {{"#", Out, 2, "l/", "r/"}, {"#", Out, 2, "r/", ""}}} {
		before := slices.Clone(rules)
		first, _, _ := Compose(rules, name, 2)
		second, _, ok := Compose(rules, name, 2)
		if !ok || first != second || at(first) == at(second) || within(first, name) || within(second, name) {
			t.Errorf("what %v make of a topic shares memory, or isn't there", rules)
		}
		if !slices.Equal(rules, before) {
			t.Error("the list isn't as it was")
		}
	}
}
