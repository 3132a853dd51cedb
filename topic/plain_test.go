package topic

import (
	"math/rand/v2"
	"strings"
	"testing"

	"aqueduct/api"
)

// A plain reading of the chapter, which has nothing of this package, and goes byte by byte.

// plainLevels tells the pieces between the slashes.
func plainLevels(s string) []string {
	levels := []string{""}
	for i := range len(s) {
		if s[i] == '/' {
			levels = append(levels, "")
		} else {
			levels[len(levels)-1] += s[i : i+1]
		}
	}
	return levels
}

// plainText tells whether s is a text: UTF-8 without a nought.
func plainText(s string) bool {
	return strings.ToValidUTF8(s, "") == s && !strings.Contains(s, "\x00")
}

// plainSize tells whether the bytes and levels of s are within the limits.
func plainSize(s string) bool {
	return len(s) >= 1 && len(s) <= 256 && len(plainLevels(s)) <= 32
}

func plainName(s string) bool {
	for i := range len(s) {
		if s[i] == '+' || s[i] == '#' {
			return false
		}
	}
	return plainSize(s) && plainText(s)
}

func plainFilter(s string) bool {
	levels := plainLevels(s)
	for i, level := range levels {
		for j := range len(level) {
			if level[j] == '+' && level != "+" {
				return false
			}
			if level[j] == '#' && (level != "#" || i < len(levels)-1) {
				return false
			}
		}
	}
	return plainSize(s) && plainText(s)
}

// plainMatch takes level by level off both.
func plainMatch(filter, name string) bool {
	if !plainFilter(filter) || !plainName(name) {
		return false
	}
	if strings.HasPrefix(name, "$") && (strings.HasPrefix(filter, "+") || strings.HasPrefix(filter, "#")) {
		return false
	}
	var match func(f, n []string) bool
	match = func(f, n []string) bool {
		switch {
		case len(f) == 0:
			return len(n) == 0
		case f[0] == "#":
			return true
		case len(n) == 0:
			return false
		case f[0] == "+" || f[0] == n[0]:
			return match(f[1:], n[1:])
		}
		return false
	}
	return match(plainLevels(filter), plainLevels(name))
}

// allOf tells all texts of at most so many of these pieces.
func allOf(pieces []string, most int) []string {
	all := []string{""}
	last := all
	for range most {
		var longer []string
		for _, s := range last {
			for _, p := range pieces {
				longer = append(longer, s+p)
			}
		}
		all = append(all, longer...)
		last = longer
	}
	return all
}

// made puts together so many of these pieces, by chance.
func made(r *rand.Rand, pieces []string, count int) string {
	var s strings.Builder
	for range count {
		s.WriteString(pieces[r.IntN(len(pieces))])
	}
	return s.String()
}

func codeOf(good bool, bad api.Code) api.Code {
	if good {
		return api.OK
	}
	return bad
}

func checkChecks(t *testing.T, s string, name, filter bool) {
	t.Helper()
	if got, want := CheckName(s), codeOf(name, api.BadTopic); got != want {
		t.Errorf("CheckName of %d bytes (%.40q) = %d, want %d", len(s), s, got, want)
	}
	if got, want := CheckFilter(s), codeOf(filter, api.BadFilter); got != want {
		t.Errorf("CheckFilter of %d bytes (%.40q) = %d, want %d", len(s), s, got, want)
	}
}

func checkMatch(t *testing.T, filter, name string, want bool) {
	t.Helper()
	if got := Match(filter, name); got != want {
		t.Errorf("Match(%.80q, %.80q) = %v, want %v", filter, name, got, want)
	}
}

func TestShortTextsAsTheChapterReads(t *testing.T) {
	for _, s := range allOf([]string{"a", "/", "+", "#", "$", "é", "\xc3", "\x00"}, 5) {
		checkChecks(t, s, plainName(s), plainFilter(s))
		checkLevels(t, s, plainLevels(s))
	}
}

func TestShortMatchesAsTheChapterReads(t *testing.T) {
	names := allOf([]string{"a", "/", "$"}, 5)
	for _, filter := range allOf([]string{"a", "/", "+", "#", "$"}, 5) {
		for _, name := range names {
			checkMatch(t, filter, name, plainMatch(filter, name))
		}
	}
	odd := allOf([]string{"b", "/", "+", "#", "\xff"}, 3)
	for _, filter := range odd {
		for _, name := range odd {
			checkMatch(t, filter, name, plainMatch(filter, name))
		}
	}
}

func TestLongTextsAsTheChapterReads(t *testing.T) {
	r := rand.New(rand.NewPCG(7, 3))
	levels := []string{"/", "/", "/a", "/bc", "/+", "/é", "/$x"}
	odd := []string{"/", "/", "/a", "/+", "/#", "/a+", "#/", "\x00", "\xc3"}
	names, filters, matches := 0, 0, 0
	for range 30000 {
		count := 1 + r.IntN(36)
		filter := made(r, levels, count)
		if r.IntN(2) == 0 {
			filter += "/#"
		}
		name := strings.ReplaceAll(strings.ReplaceAll(filter, "+", "x"), "/#", made(r, levels[:4], r.IntN(3)))
		if r.IntN(4) == 0 {
			filter += made(r, odd, 1)
		}
		if r.IntN(4) == 0 {
			name += made(r, odd, 1)
		}
		if r.IntN(2) == 0 {
			filter, name = filter[1:], name[1:]
		}
		checkChecks(t, filter, plainName(filter), plainFilter(filter))
		checkChecks(t, name, plainName(name), plainFilter(name))
		checkMatch(t, filter, name, plainMatch(filter, name))
		names += count01(plainName(name))
		filters += count01(plainFilter(filter))
		matches += count01(plainMatch(filter, name))
	}
	// The made texts tell little unless many of them are of each kind.
	for _, n := range []int{names, filters, matches} {
		if n < 3000 || n > 27000 {
			t.Errorf("of 30000 there are %d names, %d filters, %d matches", names, filters, matches)
		}
	}
}

func count01(b bool) int {
	if b {
		return 1
	}
	return 0
}
