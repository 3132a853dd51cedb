package remap

import (
	"math"
	"math/rand/v2"
	"slices"
	"strings"
	"testing"

	"aqueduct/api"
	"aqueduct/topic"
)

// A plain reading of the chapter: a rule's topics are searched among others by layer 7's Match.

func isName(s string) bool { return topic.CheckName(s) == api.OK }

func plainCheck(r Rule) api.Code {
	switch {
	case topic.CheckFilter(r.Pattern) != api.OK:
		return api.BadFilter
	case r.Local != "" && !isName(r.Local), r.Remote != "" && !isName(r.Remote):
		return api.BadTopic
	case r.Dir != Out && r.Dir != In && r.Dir != Both:
		return api.Unspecified
	case r.QoS != 0 && r.QoS != 1 && r.QoS != 2:
		return api.NoQoS
	default:
		return api.OK
	}
}

// pair is a local and a remote topic.
type pair struct {
	local, remote string
}

// joinedBy tells the topics that a rule joins by this one; false, if there are none.
func joinedBy(r Rule, t string) (pair, bool) {
	p := pair{r.Local + t, r.Remote + t}
	return p, plainCheck(r) == api.OK && isName(t) && topic.Match(r.Pattern, t) && isName(p.local) && isName(p.remote)
}

// plainRemote searches these topics for one by which a rule joins name with another one.
func plainRemote(r Rule, name string, among []string) (string, bool) {
	for _, t := range among {
		if p, ok := joinedBy(r, t); ok && p.local == name && r.Dir != In {
			return p.remote, true
		}
	}
	return "", false
}

func plainLocal(r Rule, name string, among []string) (string, bool) {
	for _, t := range among {
		if p, ok := joinedBy(r, t); ok && p.remote == name && r.Dir != Out {
			return p.local, true
		}
	}
	return "", false
}

// ends are all ends of a text, among which each topic is that may stand behind something in it.
func ends(s string) []string {
	var out []string
	for at := range len(s) + 1 {
		out = append(out, s[at:])
	}
	return out
}

func plainRoute(rules []Rule, name string, qos int) []Hop {
	var out []Hop
	for i, r := range rules {
		if s, ok := plainRemote(r, name, ends(name)); ok {
			out = append(out, Hop{i, s, least(qos, r.QoS)})
		}
	}
	return out
}

func plainCompose(rules []Rule, name string, qos int) (string, int, bool) {
	if len(rules) == 0 {
		if isName(name) {
			return name, qos, true
		}
		return "", 0, false
	}
	s, ok := plainRemote(rules[0], name, ends(name))
	if !ok {
		return "", 0, false
	}
	return plainCompose(rules[1:], s, least(qos, rules[0].QoS))
}

// smallTopics are all of one to three levels of these few. Each end of one is another one, or empty.
func smallTopics() []string {
	var out []string
	var goOn func(begin string, left int)
	goOn = func(begin string, left int) {
		for _, level := range []string{"", "a", "b", "$", "ab", "$a"} {
			if s := begin + level; s != "" {
				out = append(out, s)
			}
			if left > 1 {
				goOn(begin+level+"/", left-1)
			}
		}
	}
	goOn("", 3)
	return out
}

// smallRules are of each direction, also of none, and of few patterns and sides.
func smallRules() []Rule {
	var out []Rule
	small := []string{"", "a", "a/", "/", "$", "a/b/"}
	for _, pattern := range []string{"#", "+", "a", "/", "b/#", "+/#", "/#", "a/+", "+/b", "+/", "+/+", "$/#", "$a", "+/+/+", "a/+/#", "ab/b", "//", "a#"} {
		for _, local := range small {
			for _, remote := range small {
				for dir := Direction(-1); dir <= 3; dir++ {
					out = append(out, Rule{pattern, dir, len(out) % 3, local, remote})
				}
			}
		}
	}
	return out
}

// joinedAmong are the pairs that a rule joins by one of these topics, by their local, and by their remote ones.
func joinedAmong(r Rule, topics []string) (byLocal, byRemote map[string]string) {
	byLocal, byRemote = map[string]string{}, map[string]string{}
	for _, t := range topics {
		if p, ok := joinedBy(r, t); ok {
			if r.Dir != In {
				byLocal[p.local] = p.remote
			}
			if r.Dir != Out {
				byRemote[p.remote] = p.local
			}
		}
	}
	return byLocal, byRemote
}

func TestSmallTopicsAsTheChapterReads(t *testing.T) {
	topics := smallTopics()
	given := append([]string{"", "+", "a/+", "#", "a/#"}, topics...)
	joins := 0
	for _, r := range smallRules() {
		if got, want := r.Check(), plainCheck(r); got != want {
			t.Fatalf("Check of %s = %d, not %d", shown(r), got, want)
		}
		byLocal, byRemote := joinedAmong(r, topics)
		for _, name := range given {
			wantToRemote(t, r, name, byLocal[name])
			wantToLocal(t, r, name, byRemote[name])
			if byLocal[name] != "" || byRemote[name] != "" {
				joins++
			}
		}
		if t.Failed() {
			return
		}
	}
	if joins < 10000 {
		t.Errorf("only %d topics are joined with others", joins)
	}
}

// maker makes what is handed in.
type maker struct {
	*rand.Rand
}

func (m maker) one(of ...string) string { return of[m.IntN(len(of))] }

// side makes what may stand ahead, seldom a text that mayn't.
func (m maker) side() string {
	switch m.IntN(40) {
	case 0:
		return m.one("+", "a/#", "\xff", "\x00", strings.Repeat("a", 257), strings.Repeat("/", 32))
	case 1:
		return strings.Repeat("a", 240+m.IntN(17))
	case 2:
		return strings.Repeat("/", 20+m.IntN(12))
	default:
		return m.one("", "", "a", "a/", "b/", "a/b/", "é", "$", "/")
	}
}

// pattern makes one, seldom a text that is none.
func (m maker) pattern() string {
	if m.IntN(40) == 0 {
		return m.one("", "a+", "#/a", "a#", "\xff", "a\x00", strings.Repeat("+/", 32))
	}
	var levels []string
	for range m.IntN(3) {
		levels = append(levels, m.one("+", "+", "a", "b", "", "$"))
	}
	return strings.Join(append(levels, m.one("#", "#", "#", "+", "a")), "/")
}

// rule makes one, seldom one that isn't good.
func (m maker) rule() Rule {
	r := Rule{m.pattern(), Direction(m.IntN(3)), m.IntN(3), m.side(), m.side()}
	switch m.IntN(40) {
	case 0:
		r.Dir = []Direction{math.MinInt, -1, 3, math.MaxInt}[m.IntN(4)]
	case 1:
		r.QoS = []int{math.MinInt, -1, 3, math.MaxInt}[m.IntN(4)]
	}
	return r
}

// name makes one that a rule may take, seldom a text that is none.
func (m maker) name(r Rule) string {
	ahead := m.one(r.Local, r.Local, r.Remote, "")
	rest := strings.ReplaceAll(r.Pattern, "+", m.one("a", "b", "", "$a"))
	rest = strings.ReplaceAll(rest, "#", m.one("a", "b/c", "", "$", "+", "\xa9", strings.Repeat("a", m.IntN(257)), strings.Repeat("/", m.IntN(32))))
	return ahead + rest
}

func TestMadeRulesAsTheChapterReads(t *testing.T) {
	m := maker{rand.New(rand.NewPCG(10, 1))}
	seen := map[string]int{}
	for range 20000 {
		r := m.rule()
		code := plainCheck(r)
		wantCheck(t, r, code)
		seen["code "+shown(code)]++
		name := m.name(r)
		remote, out := plainRemote(r, name, ends(name))
		local, in := plainLocal(r, name, ends(name))
		wantToRemote(t, r, name, remote)
		wantToLocal(t, r, name, local)
		wantToRemote(t, r.Flip(), name, local)
		wantToLocal(t, r.Flip(), name, remote)
		count(seen, out, "to remote")
		count(seen, in, "to local")
		count(seen, (out || in) && len(name) > 200, "long ones")
		count(seen, !out && code == api.OK && isName(name) && r.Dir != In && strings.HasPrefix(name, r.Local) && topic.Match(r.Pattern, name[len(r.Local):]), "too long ones")
		if t.Failed() {
			return
		}
	}
	wantOften(t, seen, "code 0", "code 143", "code 144", "code 128", "code 155", "to remote", "to local", "long ones", "too long ones")
}

func TestMadeListsAsTheChapterReads(t *testing.T) {
	m := maker{rand.New(rand.NewPCG(10, 2))}
	seen := map[string]int{}
	for range 10000 {
		var rules []Rule
		for range m.IntN(5) {
			r := m.rule()
			if m.IntN(2) == 0 {
				r = Rule{"#", []Direction{Out, Both}[m.IntN(2)], r.QoS, m.one("", "a/"), m.one("a/", "a/a/")}
			}
			rules = append(rules, r)
		}
		name, qos := m.one("a", "a/b", "a/a/b", "", "$", "+", "é", m.name(m.rule())), m.IntN(5)-1
		hops := plainRoute(rules, name, qos)
		wantRoute(t, rules, name, qos, hops...)
		s, q, ok := plainCompose(rules, name, qos)
		wantCompose(t, rules, name, qos, s, q)
		count(seen, len(hops) > 1, "several hops")
		count(seen, len(hops) > 0 && len(hops) < len(rules), "fewer hops than rules")
		count(seen, slices.ContainsFunc(hops, func(h Hop) bool { return h.QoS < qos }), "less than the QoS")
		count(seen, slices.ContainsFunc(hops, func(h Hop) bool { return h.QoS < rules[h.Rule].QoS }), "less than the rule's QoS")
		count(seen, ok && len(rules) == 0, "composed of none")
		count(seen, ok && len(rules) > 2, "composed of several")
		count(seen, !ok && len(rules) > 2, "not composed")
		if t.Failed() {
			return
		}
	}
	wantOften(t, seen, "several hops", "fewer hops than rules", "less than the QoS", "less than the rule's QoS", "composed of none", "composed of several", "not composed")
}

func count(seen map[string]int, is bool, kind string) {
	if is {
		seen[kind]++
	}
}

func wantOften(t *testing.T, seen map[string]int, kinds ...string) {
	t.Helper()
	for _, kind := range kinds {
		if seen[kind] < 50 {
			t.Errorf("%s: only %d", kind, seen[kind])
		}
	}
}
