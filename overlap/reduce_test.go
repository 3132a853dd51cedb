package overlap

import (
	"math/rand/v2"
	"slices"
	"strconv"
	"strings"
	"testing"
	"unsafe"

	"aqueduct/api"
)

// Of P8.3.

func checkReduce(t *testing.T, l, want []string) {
	t.Helper()
	before := slices.Clone(l)
	if got := Reduce(l); !slices.Equal(got, want) {
		t.Errorf("Reduce(%.300q) = %.300q, want %.300q", before, got, want)
	}
	if !slices.Equal(l, before) {
		t.Errorf("Reduce changed %.300q to %.300q", before, l)
	}
}

func TestReduce(t *testing.T) {
	for _, c := range []struct{ l, want []string }{
		{nil, nil},
		{[]string{}, nil},
		{[]string{"a"}, []string{"a"}},
		{[]string{"#"}, []string{"#"}},
		{[]string{"$x/#"}, []string{"$x/#"}},
		{[]string{"b", "a", "c"}, []string{"b", "a", "c"}},
		// Those that others cover, wherever these stand.
		{[]string{"a", "#"}, []string{"#"}},
		{[]string{"#", "a"}, []string{"#"}},
		{[]string{"a", "b", "+", "c"}, []string{"+"}},
		{[]string{"b/x", "a/b", "a/#", "b/y", "a/c"}, []string{"b/x", "a/#", "b/y"}},
		{[]string{"a/b/c", "a/b/+", "a/b/#", "a/#", "z"}, []string{"a/#", "z"}},
		{[]string{"a/#", "a/b/#", "a/b/+", "a/b/c", "z"}, []string{"a/#", "z"}},
		{[]string{"a/b/c", "z", "a/#", "y", "a/b/#"}, []string{"z", "a/#", "y"}},
		{[]string{"a/+", "+/b", "a/b"}, []string{"a/+", "+/b"}},
		{[]string{"a/b", "+/b", "a/+"}, []string{"+/b", "a/+"}},
		{[]string{"+/+", "a/+", "+/b", "/"}, []string{"+/+"}},
		{[]string{"a/+/#", "a/#"}, []string{"a/#"}},
		{[]string{"a/+/#", "a"}, []string{"a/+/#", "a"}},
		{[]string{"$x", "#", "$y/z", "a"}, []string{"$x", "#", "$y/z"}},
		{[]string{"$x", "$x/#", "#", "+"}, []string{"$x/#", "#"}},
		// The same one twice.
		{[]string{"a", "a"}, []string{"a"}},
		{[]string{"a", "b", "a", "b", "a"}, []string{"a", "b"}},
		{[]string{"#", "#", "#"}, []string{"#"}},
		{[]string{"a/b", "a/b", "a/+", "a/b", "a/+"}, []string{"a/+"}},
		// Of those that cover one another the first.
		{[]string{"#", "+/#"}, []string{"#"}},
		{[]string{"+/#", "#"}, []string{"+/#"}},
		{[]string{"/#", "/+/#"}, []string{"/#"}},
		{[]string{"/+/#", "/#"}, []string{"/+/#"}},
		{[]string{"/+/#", "x", "/#", "/+/#", "/a"}, []string{"/+/#", "x"}},
		{[]string{"/#", "+/#", "/+/#", "#"}, []string{"+/#"}},
		{[]string{"a", "+/#", "$x", "#", "a/b"}, []string{"+/#", "$x"}},
	} {
		checkReduce(t, c.l, c.want)
	}
}

func TestReduceAmongNoFilters(t *testing.T) {
	var mixed []string
	for _, s := range noFilters() {
		checkReduce(t, []string{s}, nil)
		checkReduce(t, []string{s, s}, nil)
		checkReduce(t, []string{s, "a"}, []string{"a"})
		checkReduce(t, []string{"a", s, "b"}, []string{"a", "b"})
		checkReduce(t, []string{"a", s, "+", s, "$x", s}, []string{"+", "$x"})
		mixed = append(mixed, s, "f/"+strconv.Itoa(len(mixed)))
	}
	checkReduce(t, noFilters(), nil)
	var wanted []string
	for i := 1; i < len(mixed); i += 2 {
		wanted = append(wanted, mixed[i])
	}
	checkReduce(t, mixed, wanted)
	checkReduce(t, append(mixed, "+/+"), []string{"+/+"})
}

func TestReduceOfFiltersAtTheLimits(t *testing.T) {
	most, deep := strings.Repeat("x", api.MaxTopic), strings.Repeat("+/", api.MaxLevels-1)
	checkReduce(t, []string{most, deep + "+", most[2:] + "/#", "y" + most[1:]}, []string{most, deep + "+", most[2:] + "/#", "y" + most[1:]})
	checkReduce(t, []string{most, deep + "+", deep + "#", most[2:] + "/#", "+"}, []string{deep + "#", most[2:] + "/#", "+"})
	checkReduce(t, []string{most + "x", deep + "+/#", "+"}, []string{"+"})
}

func TestReduceOfLongLists(t *testing.T) {
	var l []string
	for i := range api.MaxClients * api.MaxSubs {
		l = append(l, "a/"+strconv.Itoa(i)+"/+")
	}
	checkReduce(t, l, l)
	checkReduce(t, append(l, "a/+/+"), []string{"a/+/+"})
	checkReduce(t, append(l, l...), l)
}

// plainReduce keeps what no other one covers, but one that covers it is passed by if that stands behind and is covered by it, too.
func plainReduce(l []string, sets map[string][]bool) []string {
	var out []string
	for i, s := range l {
		keep := sets[s] != nil
		for j, other := range l {
			if !keep || j == i || sets[other] == nil {
				continue
			}
			_, over := plainHeld(sets[other], sets[s])
			_, under := plainHeld(sets[s], sets[other])
			keep = !over || under && i < j
		}
		if keep {
			out = append(out, s)
		}
	}
	return out
}

func TestReduceAsTheChapterReads(t *testing.T) {
	r := rand.New(rand.NewPCG(8, 3))
	filters := smallFilters()
	sets := map[string][]bool{}
	for i, set := range matched(filters, smallTopics()) {
		sets[filters[i]] = set
	}
	pool := append([]string{"", "a+", "#/a"}, filters...)
	left := 0
	for range 5000 {
		var l []string
		for range r.IntN(10) {
			l = append(l, pool[r.IntN(len(pool))])
		}
		want := plainReduce(l, sets)
		checkReduce(t, l, want)
		left += len(want)
	}
	if left < 10000 {
		t.Errorf("%d are left", left)
	}
}

// Of DOC.md's rule 4: what lies behind a list is neither read nor written, and an answer is new memory.

func TestReduceReadsNothingBehindTheList(t *testing.T) {
	whole := []string{"a", "a/b", "a/+", "#"}
	if got := Reduce(whole[:2]); !slices.Equal(got, []string{"a", "a/b"}) {
		t.Errorf("Reduce of a list with more behind it = %q", got)
	}
	if got := Reduce(whole[1:3]); !slices.Equal(got, []string{"a/+"}) {
		t.Errorf("Reduce of a list with more behind it = %q", got)
	}
	if !slices.Equal(whole, []string{"a", "a/b", "a/+", "#"}) {
		t.Errorf("Reduce left %q", whole)
	}
}

func TestAnswersAreNewMemory(t *testing.T) {
	l := []string{"a/b", "c"}
	first, second := Reduce(l), Reduce(l)
	first[0] = "x"
	if l[0] != "a/b" || second[0] != "a/b" {
		t.Error("an answer of Reduce shares the list's memory, or another answer's")
	}
	for i := range second {
		if unsafe.StringData(second[i]) == unsafe.StringData(l[i]) {
			t.Errorf("what Reduce answers of %q shares the argument's memory", l[i])
		}
	}
	for _, f := range []string{"abc", "a/b/c"} {
		if s, ok := Witness(f, f); !ok || unsafe.StringData(s) == unsafe.StringData(f) {
			t.Errorf("what Witness answers of %q shares the argument's memory", f)
		}
		if s, ok := Gap("x", f); !ok || unsafe.StringData(s) == unsafe.StringData(f) {
			t.Errorf("what Gap answers of %q shares the argument's memory", f)
		}
	}
}
