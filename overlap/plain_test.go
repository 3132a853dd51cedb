package overlap

import (
	"slices"
	"strings"
	"testing"
	"unicode/utf8"
)

// A plain reading of the chapter, which has nothing of this package: topics are gone through one by one.

func plainFilter(s string) bool {
	levels := strings.Split(s, "/")
	for i, level := range levels {
		if strings.Contains(level, "+") && level != "+" {
			return false
		}
		if strings.Contains(level, "#") && (level != "#" || i < len(levels)-1) {
			return false
		}
	}
	return s != "" && len(s) <= 256 && len(levels) <= 32 && utf8.ValidString(s) && !strings.Contains(s, "\x00")
}

// plainTopic tells whether s is a topic of any length.
func plainTopic(s string) bool {
	return s != "" && !strings.ContainsAny(s, "+#\x00") && utf8.ValidString(s)
}

// plainMatch tells whether a filter matches a topic of any length.
func plainMatch(filter, name string) bool {
	if strings.HasPrefix(name, "$") && (strings.HasPrefix(filter, "+") || strings.HasPrefix(filter, "#")) {
		return false
	}
	f, n := strings.Split(filter, "/"), strings.Split(name, "/")
	for ; len(f) > 0 && f[0] != "#"; f, n = f[1:], n[1:] {
		if len(n) == 0 || f[0] != "+" && f[0] != n[0] {
			return false
		}
	}
	return len(f) > 0 || len(n) == 0
}

// joined tells all texts of from 1 to most of these levels, but the empty one.
func joined(levels []string, most int) []string {
	all := slices.Clone(levels)
	last := all
	for range most - 1 {
		var longer []string
		for _, s := range last {
			for _, level := range levels {
				longer = append(longer, s+"/"+level)
			}
		}
		all = append(all, longer...)
		last = longer
	}
	return slices.DeleteFunc(all, func(s string) bool { return s == "" })
}

// smallFilters are all of at most three levels of a few kinds, with and without # behind them.
func smallFilters() []string {
	plain := joined([]string{"", "a", "A", "$", "+"}, 3)
	all := append([]string{"#", "/#"}, plain...)
	for _, s := range plain {
		all = append(all, s+"/#")
	}
	return all
}

// smallTopics tell small filters apart: z is a level that none of them names, and the longest have a level more than these.
func smallTopics() []string {
	return joined([]string{"", "a", "A", "$", "z"}, 4)
}

// matched tells, topic by topic, which ones each filter matches.
func matched(filters, topics []string) [][]bool {
	var all [][]bool
	for _, f := range filters {
		var one []bool
		for _, s := range topics {
			one = append(one, plainMatch(f, s))
		}
		all = append(all, one)
	}
	return all
}

// plainHeld tells whether some topic is matched by both, and whether all are that the second one matches.
func plainHeld(first, second []bool) (some, all bool) {
	all = true
	for i := range second {
		some = some || first[i] && second[i]
		all = all && (first[i] || !second[i])
	}
	return some, all
}

// checkOverlap holds Overlap and Witness against what is wanted, both ways round.
func checkOverlap(t *testing.T, f, g string, want bool) {
	t.Helper()
	for _, p := range [][2]string{{f, g}, {g, f}} {
		if got := Overlap(p[0], p[1]); got != want {
			t.Errorf("Overlap(%.300q, %.300q) = %v", p[0], p[1], got)
		}
		s, ok := Witness(p[0], p[1])
		if ok != want {
			t.Errorf("Witness(%.300q, %.300q) = %.600q, %v", p[0], p[1], s, ok)
		}
		if !ok && s != "" {
			t.Errorf("Witness(%.300q, %.300q) tells %.600q beside false", p[0], p[1], s)
		}
		if ok && (!plainTopic(s) || !plainMatch(f, s) || !plainMatch(g, s)) {
			t.Errorf("Witness(%.300q, %.300q) = %.600q, which isn't one", p[0], p[1], s)
		}
	}
}

// checkCovers holds Covers and Gap against what is wanted.
func checkCovers(t *testing.T, f, g string, want bool) {
	t.Helper()
	if got := Covers(f, g); got != want {
		t.Errorf("Covers(%.300q, %.300q) = %v", f, g, got)
	}
	s, ok := Gap(f, g)
	if ok == want {
		t.Errorf("Gap(%.300q, %.300q) = %.600q, %v", f, g, s, ok)
	}
	if !ok && s != "" {
		t.Errorf("Gap(%.300q, %.300q) tells %.600q beside false", f, g, s)
	}
	if ok && (!plainTopic(s) || plainMatch(f, s) || !plainMatch(g, s)) {
		t.Errorf("Gap(%.300q, %.300q) = %.600q, which isn't one", f, g, s)
	}
}

func TestSmallFiltersAsTheChapterReads(t *testing.T) {
	filters := smallFilters()
	table := matched(filters, smallTopics())
	overlaps, covered := 0, 0
	for i, f := range filters {
		for j, g := range filters {
			some, all := plainHeld(table[i], table[j])
			checkOverlap(t, f, g, some)
			checkCovers(t, f, g, all)
			overlaps += count01(some)
			covered += count01(all)
		}
	}
	// The filters tell little unless many pairs are of each kind.
	if n := len(filters); n < 300 || overlaps < n*20 || overlaps > n*n/2 || covered < n*10 || covered > n*n/2 {
		t.Errorf("of %d filters %d pairs overlap, %d cover", n, overlaps, covered)
	}
}

func count01(b bool) int {
	if b {
		return 1
	}
	return 0
}
