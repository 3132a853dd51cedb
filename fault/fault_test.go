package fault

import (
	"errors"
	"fmt"
	"slices"
	"strings"
	"testing"

	"aqueduct/api"
)

// Errors of other make.

// bare unwraps to nothing.
type bare struct{ text string }

func (e *bare) Error() string { return e.text }

// around unwraps to one error, or to nil.
type around struct {
	text  string
	inner error
}

func (e *around) Error() string { return e.text }
func (e *around) Unwrap() error { return e.inner }

// several unwraps to a list of errors. It is a slice, so that it can't be held against another by ==.
type several []error

func (e several) Error() string   { return "several" }
func (e several) Unwrap() []error { return e }

// feigned is no fault, but answers errors.Is and errors.As by methods of its own.
type feigned struct {
	code  api.Code
	fault *Fault
}

func (e *feigned) Error() string { return "feigned" }

func (e *feigned) Is(target error) bool {
	f, ok := target.(*Fault)
	return ok && f.Code == e.code
}

func (e *feigned) As(target any) bool {
	f, ok := target.(**Fault)
	if ok {
		*f = e.fault
	}
	return ok
}

// holder is no *Fault either, though it has all methods of one.
type holder struct{ *Fault }

var noFault *Fault

// allCodes calls f with every number that a code may be.
func allCodes(f func(c api.Code)) {
	for n := range 256 {
		f(api.Code(n))
	}
}

// want is what is to be told of an error.
type want struct {
	code api.Code
	path []string
	text string
}

func check(t *testing.T, name string, err error, w want) {
	t.Helper()
	if c := CodeOf(err); c != w.code {
		t.Errorf("%s: CodeOf = %d, want %d", name, c, w.code)
	}
	if p := Path(err); !slices.Equal(p, w.path) {
		t.Errorf("%s: Path = %q, want %q", name, p, w.path)
	}
	if s := Text(err); s != w.text {
		t.Errorf("%s: Text = %q, want %q", name, s, w.text)
	}
}

// checkHas holds Has and errors.Is against the codes that are in an error, over all codes.
func checkHas(t *testing.T, name string, err error, codes ...api.Code) {
	t.Helper()
	allCodes(func(c api.Code) {
		in := slices.Contains(codes, c)
		if got := Has(err, c); got != in {
			t.Errorf("%s: Has(%d) = %v, want %v", name, c, got, in)
		}
		if got := errors.Is(err, Of(c)); got != in {
			t.Errorf("%s: errors.Is(Of(%d)) = %v, want %v", name, c, got, in)
		}
	})
}

// isFault holds an error against what is to be in the *Fault that it is.
func isFault(t *testing.T, name string, err error, c api.Code, where string, cause error) {
	t.Helper()
	f, ok := err.(*Fault)
	if !ok || f == nil {
		t.Fatalf("%s: %T, want a *Fault", name, err)
	}
	if f.Code != c || f.Where != where || f.Cause != cause {
		t.Errorf("%s: code %d, place %q, cause %v, want %d, %q, %v", name, f.Code, f.Where, f.Cause, c, where, cause)
	}
	if f.Unwrap() != cause {
		t.Errorf("%s: unwraps to %v, want %v", name, f.Unwrap(), cause)
	}
}

// The chapter's example.

func TestExample(t *testing.T) {
	err := Wrap("link", New(api.Quota, "tags"))
	check(t, "example", err, want{api.Quota, []string{"link", "tags"}, "link: tags: 151"})
	checkHas(t, "example", err, api.Quota)
}

// Of P3.1.

func TestNewAndOf(t *testing.T) {
	allCodes(func(c api.Code) {
		for _, where := range []string{"", "tags", "a: b; c", "é\x00\xff", strings.Repeat("w", 1<<17)} {
			isFault(t, "New", New(c, where), c, where, nil)
		}
		isFault(t, "Of", Of(c), c, "", nil)
		checkHas(t, "New", New(c, "tags"), c)
		checkHas(t, "Of", Of(c), c)
	})
}

func TestFaultsAreMadeApart(t *testing.T) {
	for name, maker := range map[string]func() error{
		"New":  func() error { return New(api.Quota, "") },
		"Of":   func() error { return Of(api.Quota) },
		"Wrap": func() error { return Wrap("", Of(api.Quota)) },
	} {
		one, two := maker().(*Fault), maker().(*Fault)
		*one = Fault{api.Full, "elsewhere", errors.New("odd")}
		if two.Code != api.Quota || two.Where != "" {
			t.Errorf("%s: a fault changed with another one: %v", name, two)
		}
		if three := maker().(*Fault); three.Code != api.Quota || three.Where != "" {
			t.Errorf("%s: a later fault changed with an earlier one: %v", name, three)
		}
	}
}

func TestIs(t *testing.T) {
	odd := errors.New("odd")
	faults := []*Fault{
		{api.Quota, "", nil}, {api.Quota, "tags", nil}, {api.Quota, "", odd}, {api.Quota, "tags", odd},
		{api.Quota, "link", Of(api.Full)}, {api.Quota, "", noFault},
	}
	for i, f := range faults {
		for _, x := range []struct {
			name   string
			target error
			is     bool
		}{
			{"Of its code", Of(api.Quota), true},
			{"New without a place", New(api.Quota, ""), true},
			{"a *Fault", &Fault{Code: api.Quota}, true},
			{"Of another code", Of(api.Full), false},
			{"Of OK", Of(api.OK), false},
			{"Of its cause's code", Of(api.Unspecified), false},
			{"with a place", New(api.Quota, "tags"), false},
			{"with a blank for a place", New(api.Quota, " "), false},
			{"with a cause", &Fault{Code: api.Quota, Cause: odd}, false},
			{"with a nil *Fault as cause", &Fault{Code: api.Quota, Cause: noFault}, false},
			{"wrapped", Wrap("", Of(api.Quota)), false},
			{"joined", Join(Of(api.Quota)), false},
			{"a fault within another make", &around{"x", Of(api.Quota)}, false},
			{"a fault's methods", holder{&Fault{Code: api.Quota}}, false},
			{"its Text alone", errors.New(": 151"), false},
			{"a nil *Fault", noFault, false},
			{"nil", nil, false},
			{"what can't be compared", several{Of(api.Quota)}, false},
		} {
			if got := f.Is(x.target); got != x.is {
				t.Errorf("fault %d: Is(%s) = %v, want %v", i, x.name, got, x.is)
			}
		}
	}
}

func TestIsOfEveryCode(t *testing.T) {
	allCodes(func(c api.Code) {
		allCodes(func(d api.Code) {
			if got := New(c, "tags").(*Fault).Is(Of(d)); got != (c == d) {
				t.Errorf("Is of %d and %d = %v", c, d, got)
			}
		})
	})
}

func TestErrorsIsOfFaults(t *testing.T) {
	one := New(api.Quota, "tags")
	two := Wrap("link", one)
	if !errors.Is(two, one) || !errors.Is(two, two) {
		t.Error("an error is not in itself, or its cause not in it")
	}
	if errors.Is(one, two) || errors.Is(one, New(api.Quota, "tags")) || errors.Is(Of(api.Quota), one) {
		t.Error("a fault with a place, or with a cause, stands for its code")
	}
}

func TestHas(t *testing.T) {
	odd := errors.New("odd")
	for _, x := range []struct {
		name  string
		err   error
		codes []api.Code
	}{
		{"nil", nil, nil},
		{"a nil *Fault", noFault, nil},
		{"odd", odd, nil},
		{"odd, wrapped", Wrap("x", odd), []api.Code{api.Unspecified}},
		{"OK", Of(api.OK), []api.Code{api.OK}},
		{"a cause of another code", &Fault{api.Quota, "x", Of(api.Full)}, []api.Code{api.Quota, api.Full}},
		{"joined", Join(odd, New(api.Power, "p"), nil, New(api.Full, "f")), []api.Code{api.Power, api.Full}},
		{"joined in joined", Join(Join(odd, Of(api.Power)), Wrap("w", Join(Of(api.Full), Of(api.Quota)))), []api.Code{api.Power, api.Full, api.Quota}},
		{"around", &around{"x", New(api.Quota, "tags")}, []api.Code{api.Quota}},
		{"around nil", &around{"x", nil}, nil},
		{"several", several{nil, odd, New(api.Quota, "q"), several{Of(api.Full)}}, []api.Code{api.Quota, api.Full}},
		{"several of none", several{}, nil},
		{"errors.Join", errors.Join(odd, Of(api.Quota)), []api.Code{api.Quota}},
		{"fmt", fmt.Errorf("far: %w, %w", Of(api.Quota), Of(api.Power)), []api.Code{api.Quota, api.Power}},
		{"held", holder{&Fault{api.Quota, "x", Of(api.Full)}}, []api.Code{api.Quota, api.Full}},
		{"a nil *Fault held", holder{}, nil},
	} {
		checkHas(t, x.name, x.err, x.codes...)
	}
}

func TestMethodsOfNilFault(t *testing.T) {
	if s := noFault.Error(); s != "" {
		t.Errorf("Error = %q", s)
	}
	if err := noFault.Unwrap(); err != nil {
		t.Errorf("Unwrap = %v", err)
	}
	for _, target := range []error{nil, noFault, Of(api.OK), Of(api.Unspecified), &Fault{}, errors.New(""), Join(noFault)} {
		if noFault.Is(target) {
			t.Errorf("Is(%v) of a nil *Fault", target)
		}
	}
}

func TestNilFaultWithinErrors(t *testing.T) {
	check(t, "itself", noFault, want{api.Unspecified, nil, ""})
	check(t, "as a cause", &Fault{api.Quota, "x", noFault}, want{api.Quota, []string{"x"}, "x: "})
	check(t, "wrapped", Wrap("x", noFault), want{api.Unspecified, []string{"x"}, "x: "})
	check(t, "joined", Join(noFault, New(api.Quota, "y")), want{api.Unspecified, nil, "; y: 151"})
	check(t, "joined behind", Join(New(api.Quota, "y"), noFault), want{api.Quota, []string{"y"}, "y: 151; "})
	check(t, "in another make", &around{"z", noFault}, want{api.Unspecified, nil, "z"})
	checkHas(t, "joined", Join(noFault, New(api.Quota, "y")), api.Quota)
}

// Of P3.2.

func TestWrap(t *testing.T) {
	odd := errors.New("odd")
	for _, where := range []string{"", "link", "a: b", "\xff\x00"} {
		for _, x := range []struct {
			err error
			c   api.Code
		}{
			{New(api.Quota, "tags"), api.Quota},
			{Of(api.OK), api.OK},
			{odd, api.Unspecified},
			{Wrap("in", New(api.Full, "disk")), api.Full},
			{&Fault{api.Power, "p", Of(api.Full)}, api.Power},
			{Join(odd, New(api.Full, "disk"), Of(api.Quota)), api.Full},
			{Join(odd), api.Unspecified},
			{&around{"x", Of(api.Quota)}, api.Quota},
			{&around{"x", nil}, api.Unspecified},
			{&feigned{api.Full, &Fault{Code: api.Power}}, api.Power},
		} {
			isFault(t, "Wrap", Wrap(where, x.err), x.c, where, x.err)
		}
		if err := Wrap(where, nil); err != nil {
			t.Errorf("Wrap(%q, nil) = %v", where, err)
		}
		if err := Wrap(where, Join(nil, nil)); err != nil {
			t.Errorf("Wrap(%q) of nothing joined = %v", where, err)
		}
	}
	allCodes(func(c api.Code) {
		cause := New(c, "in")
		isFault(t, "Wrap", Wrap("out", cause), c, "out", cause)
	})
}

func TestWrapLeavesWhatItWraps(t *testing.T) {
	one := New(api.Quota, "tags")
	Wrap("link", one)
	isFault(t, "wrapped", one, api.Quota, "tags", nil)
}

func TestWrapManyTimes(t *testing.T) {
	err := New(api.Full, "disk")
	path := []string{"disk"}
	text := "disk: 241"
	for i := range 50 {
		where := fmt.Sprint("w", i)
		err = Wrap(where, err)
		path = append([]string{where}, path...)
		text = where + ": " + text
		check(t, where, err, want{api.Full, path, text})
		checkHas(t, where, err, api.Full)
	}
}

// Of P3.3.

// listOf tells what an error unwraps to, if that is a list.
func listOf(err error) ([]error, bool) {
	if u, ok := err.(interface{ Unwrap() []error }); ok {
		return u.Unwrap(), true
	}
	return nil, false
}

func TestJoin(t *testing.T) {
	odd, one, two := errors.New("odd"), New(api.Quota, "tags"), Wrap("link", Of(api.Full))
	inner := Join(one, two)
	for i, x := range []struct{ errs, list []error }{
		{nil, nil},
		{[]error{}, nil},
		{[]error{nil}, nil},
		{[]error{nil, nil, nil}, nil},
		{[]error{one}, []error{one}},
		{[]error{odd}, []error{odd}},
		{[]error{noFault}, []error{noFault}},
		{[]error{nil, one, nil}, []error{one}},
		{[]error{one, two}, []error{one, two}},
		{[]error{two, one}, []error{two, one}},
		{[]error{one, one, one}, []error{one, one, one}},
		{[]error{nil, odd, nil, one, nil, two, nil}, []error{odd, one, two}},
		{[]error{inner}, []error{inner}},
		{[]error{inner, odd, inner}, []error{inner, odd, inner}},
	} {
		err := Join(x.errs...)
		if len(x.list) == 0 {
			if err != nil {
				t.Errorf("%d: %v, want nil", i, err)
			}
			continue
		}
		if list, ok := listOf(err); !ok || !slices.Equal(list, x.list) {
			t.Errorf("%d: unwraps to %v, want %v", i, list, x.list)
		}
		if errors.Unwrap(err) != nil {
			t.Errorf("%d: unwraps to one error", i)
		}
		if err.Error() != Text(err) {
			t.Errorf("%d: Error = %q, Text = %q", i, err.Error(), Text(err))
		}
	}
}

func TestJoinKeepsNothingOfItsList(t *testing.T) {
	one, two, other := New(api.Quota, "one"), New(api.Full, "two"), errors.New("other")
	given := []error{one, nil, two, other}
	err := Join(given[:3]...)
	if !slices.Equal(given, []error{one, nil, two, other}) {
		t.Errorf("Join changed its list: %v", given)
	}
	clear(given)
	told, _ := listOf(err)
	if !slices.Equal(told, []error{one, two}) {
		t.Errorf("what was joined changed with the list: %v", told)
	}
	clear(told[:cap(told)])
	if again, _ := listOf(err); !slices.Equal(again, []error{one, two}) {
		t.Errorf("what was joined changed with what was told: %v", again)
	}
	check(t, "joined", err, want{api.Quota, []string{"one"}, "one: 151; two: 241"})
}

func TestJoinedAreApart(t *testing.T) {
	one := New(api.Quota, "one")
	first, second := Join(one), Join(one)
	if first == second {
		t.Error("two joined errors are one")
	}
	if errors.Is(first, second) || !errors.Is(first, first) || !errors.Is(first, one) {
		t.Error("a joined error is to be found in itself, and nowhere else")
	}
}

// Of P3.4.

func TestCodeOf(t *testing.T) {
	odd := errors.New("odd")
	for _, x := range []struct {
		name string
		err  error
		c    api.Code
	}{
		{"nil", nil, api.OK},
		{"odd", odd, api.Unspecified},
		{"OK", Of(api.OK), api.OK},
		{"OK, wrapped", Wrap("w", Of(api.OK)), api.OK},
		{"OK ahead", Join(odd, Of(api.OK), Of(api.Quota)), api.OK},
		{"another cause", &Fault{api.Power, "", New(api.Quota, "tags")}, api.Power},
		{"OK with a cause", &Fault{api.OK, "", New(api.Quota, "tags")}, api.OK},
		{"odd ahead", Join(odd, New(api.Quota, "tags"), New(api.Full, "disk")), api.Quota},
		{"first of two", Join(New(api.Full, "disk"), New(api.Quota, "tags")), api.Full},
		{"depth ahead of breadth", Join(Join(odd, Join(&around{"x", Of(api.Power)})), Of(api.Full)), api.Power},
		{"nothing in the first", Join(Join(odd, &around{"x", nil}), several{}, Of(api.Full)), api.Full},
		{"only odd ones", Join(odd, Join(odd, odd), &around{"x", odd}, several{odd}), api.Unspecified},
		{"wrapped, joined", Join(Wrap("w", Join(odd, Of(api.Full))), Of(api.Power)), api.Full},
		{"around", &around{"x", Wrap("w", Of(api.Quota))}, api.Quota},
		{"around nil", &around{"x", nil}, api.Unspecified},
		{"several", several{nil, odd, Of(api.Quota), Of(api.Full)}, api.Quota},
		{"several of none", several{}, api.Unspecified},
		{"several nils", several{nil, nil}, api.Unspecified},
		{"errors.Join", errors.Join(nil, odd, Of(api.Full)), api.Full},
		{"fmt", fmt.Errorf("far: %w", Of(api.Full)), api.Full},
		{"fmt, not wrapped", fmt.Errorf("far: %v", Of(api.Full)), api.Unspecified},
		{"a fault's methods", holder{&Fault{Code: api.Quota}}, api.Unspecified},
		{"a fault's methods, and a cause", holder{&Fault{api.Quota, "", Of(api.Full)}}, api.Full},
	} {
		if c := CodeOf(x.err); c != x.c {
			t.Errorf("%s: CodeOf = %d, want %d", x.name, c, x.c)
		}
	}
	allCodes(func(c api.Code) {
		if got := CodeOf(New(c, "x")); got != c {
			t.Errorf("CodeOf a fault of %d = %d", c, got)
		}
	})
}

// TestErrorsOwnIsAndAs holds that faults are found by errors.Is and errors.As: these ask methods of the errors' own.
func TestErrorsOwnIsAndAs(t *testing.T) {
	err := &feigned{api.Full, &Fault{Code: api.Power}}
	for name, err := range map[string]error{"itself": err, "joined": Join(err), "around": &around{"x", err}} {
		if c := CodeOf(err); c != api.Power {
			t.Errorf("%s: CodeOf = %d, want what errors.As finds, %d", name, c, api.Power)
		}
		checkHas(t, name, err, api.Full)
	}
	if c := CodeOf(&feigned{}); c != api.Unspecified {
		t.Errorf("CodeOf where errors.As finds a nil *Fault = %d", c)
	}
}

// Of P3.5.

func TestPath(t *testing.T) {
	odd, one := errors.New("odd"), New(api.Quota, "tags")
	two := Wrap("link", one)
	for _, x := range []struct {
		name string
		err  error
		path []string
	}{
		{"nil", nil, nil},
		{"odd", odd, nil},
		{"a fault", one, []string{"tags"}},
		{"wrapped", two, []string{"link", "tags"}},
		{"the same place twice", Wrap("tags", one), []string{"tags", "tags"}},
		{"empty places", Wrap("", Wrap("", Of(api.OK))), []string{"", "", ""}},
		{"odd, wrapped", Wrap("x", odd), []string{"x"}},
		{"joined", Join(two, one), []string{"link", "tags"}},
		{"joined, odd ahead", Join(odd, two), nil},
		{"joined, nil ahead", Join(nil, one, two), []string{"tags"}},
		{"one joined", Join(two), []string{"link", "tags"}},
		{"joined in joined", Join(Join(Join(one), two), odd), []string{"tags"}},
		{"joined in wrapped", Wrap("w", Join(two, odd)), []string{"w", "link", "tags"}},
		{"joined in wrapped, odd ahead", Wrap("w", Join(odd, two)), []string{"w"}},
		{"around", Wrap("w", &around{"x", two}), []string{"w", "link", "tags"}},
		{"around nil", Wrap("w", &around{"x", nil}), []string{"w"}},
		{"around, around", &around{"x", &around{"y", one}}, []string{"tags"}},
		{"several", Wrap("w", several{two, one}), []string{"w", "link", "tags"}},
		{"several, odd ahead", several{odd, one}, nil},
		{"several, nil ahead", several{nil, nil, one, two}, []string{"tags"}},
		{"several of none", Wrap("w", several{}), []string{"w"}},
		{"several nils", Wrap("w", several{nil, nil}), []string{"w"}},
		{"errors.Join", errors.Join(nil, one, odd), []string{"tags"}},
		{"fmt", fmt.Errorf("far: %w", two), []string{"link", "tags"}},
		{"a fault's methods", holder{&Fault{api.Quota, "held", one}}, []string{"tags"}},
	} {
		if p := Path(x.err); !slices.Equal(p, x.path) {
			t.Errorf("%s: Path = %q, want %q", x.name, p, x.path)
		}
	}
}

func TestPathsAreNewMemory(t *testing.T) {
	err := Wrap("link", New(api.Quota, "tags"))
	one, two := Path(err), Path(err)
	clear(one[:cap(one)])
	if !slices.Equal(two, []string{"link", "tags"}) {
		t.Errorf("a path changed with another one: %q", two)
	}
	check(t, "error", err, want{api.Quota, []string{"link", "tags"}, "link: tags: 151"})
}

func TestText(t *testing.T) {
	odd, one := errors.New("odd"), New(api.Quota, "tags")
	two := Wrap("link", one)
	for _, x := range []struct {
		name string
		err  error
		text string
	}{
		{"nil", nil, ""},
		{"odd", odd, "odd"},
		{"no text", errors.New(""), ""},
		{"a fault", one, "tags: 151"},
		{"OK", New(api.OK, "fine"), "fine: 0"},
		{"the empty place", Of(api.Quota), ": 151"},
		{"the empty place, wrapped", Wrap("", Of(api.OK)), ": : 0"},
		{"wrapped", two, "link: tags: 151"},
		{"another code within", &Fault{api.Power, "p", one}, "p: tags: 151"},
		{"odd, wrapped", Wrap("x", odd), "x: odd"},
		{"no text, wrapped", Wrap("x", errors.New("")), "x: "},
		{"joined", Join(odd, two, one), "odd; link: tags: 151; tags: 151"},
		{"joined nils", Join(nil, odd, nil, one, nil), "odd; tags: 151"},
		{"one joined", Join(two), "link: tags: 151"},
		{"joined without text", Join(errors.New(""), errors.New("")), "; "},
		{"joined in joined", Join(Join(odd, one), Join(two), odd), "odd; tags: 151; link: tags: 151; odd"},
		{"joined in wrapped", Wrap("w", Join(odd, one)), "w: odd; tags: 151"},
		{"wrapped in joined", Join(Wrap("v", Join(odd, one)), Wrap("w", odd)), "v: odd; tags: 151; w: odd"},
		{"around", &around{"x", one}, "x"},
		{"around nil", &around{"x", nil}, "x"},
		{"around, wrapped", Wrap("w", &around{"x", one}), "w: x"},
		{"several", several{one, two}, "several"},
		{"several, joined", Join(several{one}, several{}), "several; several"},
		{"errors.Join", errors.Join(odd, one), "odd\ntags: 151"},
		{"fmt", fmt.Errorf("far: %w", two), "far: link: tags: 151"},
		{"a joined one in fmt", fmt.Errorf("far: %w", Join(odd, two)), "far: odd; link: tags: 151"},
		{"bytes", Wrap("\x00é\xff", New(api.Full, "; : ")), "\x00é\xff: ; : : 241"},
		{"a fault's methods", holder{&Fault{api.Quota, "held", nil}}, "held: 151"},
	} {
		if s := Text(x.err); s != x.text {
			t.Errorf("%s: Text = %q, want %q", x.name, s, x.text)
		}
		if x.err == nil {
			continue
		}
		if s := x.err.Error(); s != x.text {
			t.Errorf("%s: Error = %q, want %q", x.name, s, x.text)
		}
	}
}

func TestTextOfEveryCode(t *testing.T) {
	allCodes(func(c api.Code) {
		if s := Text(New(c, "x")); s != fmt.Sprintf("x: %d", c) {
			t.Errorf("Text of %d = %q", c, s)
		}
	})
}

// Of P1: errors may be deep, and wide.

func TestDeepErrors(t *testing.T) {
	const deep = 1 << 16
	faults, lists, others, mixed := New(api.Quota, "x"), New(api.Quota, "x"), New(api.Quota, "x"), New(api.Quota, "x")
	for range deep {
		faults = Wrap("w", faults)
		lists = Join(lists)
		others = &around{"y", others}
	}
	for range deep / 4 {
		mixed = Wrap("w", Join(nil, several{&around{"y", mixed}}))
	}
	placesOf := func(n int) []string { return append(slices.Repeat([]string{"w"}, n), "x") }
	check(t, "faults", faults, want{api.Quota, placesOf(deep), strings.Repeat("w: ", deep) + "x: 151"})
	check(t, "lists", lists, want{api.Quota, []string{"x"}, "x: 151"})
	check(t, "others", others, want{api.Quota, []string{"x"}, "y"})
	check(t, "mixed", mixed, want{api.Quota, placesOf(deep / 4), "w: several"})
	for _, err := range []error{faults, lists, others, mixed} {
		if !Has(err, api.Quota) || Has(err, api.Full) {
			t.Error("Has of a deep error")
		}
	}
}

func TestWideErrors(t *testing.T) {
	const wide = 1 << 16
	errs := slices.Repeat([]error{&bare{"b"}, nil}, wide)
	err := Join(append(errs, New(api.Quota, "x"))...)
	check(t, "wide", err, want{api.Quota, nil, strings.Repeat("b; ", wide) + "x: 151"})
	checkHas(t, "wide", Join(errs[:8]...))
	if !Has(err, api.Quota) || Has(err, api.Full) {
		t.Error("Has of a wide error")
	}
}

// All small errors, held against what the chapter says of what is in them.

// plan is how an error is made; from it a plain reading of the chapter tells what is to be answered.
type plan struct {
	kind  byte // n: nil, b: bare, f: a fault, w: wrapped, j: joined, a: around, s: several
	code  api.Code
	parts []*plan
}

func (p *plan) name() string {
	names := []string{}
	for _, part := range p.parts {
		names = append(names, part.name())
	}
	return fmt.Sprintf("%c%d(%s)", p.kind, p.code, strings.Join(names, " "))
}

// there are the parts that aren't nil.
func (p *plan) there() []*plan {
	var out []*plan
	for _, part := range p.parts {
		if !part.none() {
			out = append(out, part)
		}
	}
	return out
}

// none: is nil made of it?
func (p *plan) none() bool {
	return p.kind == 'n' || (p.kind == 'j' || p.kind == 'w') && len(p.there()) == 0
}

func (p *plan) build() error {
	var parts []error
	for _, part := range p.parts {
		parts = append(parts, part.build())
	}
	switch p.kind {
	case 'b':
		return &bare{"b"}
	case 'f':
		return &Fault{p.code, "f", parts[0]}
	case 'w':
		return Wrap("w", parts[0])
	case 'j':
		return Join(parts...)
	case 'a':
		return &around{"a", parts[0]}
	case 's':
		return several(parts)
	}
	return nil
}

// faults are the codes of the faults in it, in order.
func (p *plan) faults() []api.Code {
	if p.none() {
		return nil
	}
	var within, out []api.Code
	for _, part := range p.there() {
		within = append(within, part.faults()...)
	}
	switch p.kind {
	case 'f':
		out = append(out, p.code)
	case 'w':
		out = append(out, p.parts[0].first())
	}
	return append(out, within...)
}

// first is the code of the first fault in it.
func (p *plan) first() api.Code {
	if p.none() {
		return api.OK
	}
	if in := p.faults(); len(in) > 0 {
		return in[0]
	}
	return api.Unspecified
}

func (p *plan) path() []string {
	if p.none() {
		return nil
	}
	var out []string
	if p.kind == 'f' || p.kind == 'w' {
		out = append(out, string(p.kind))
	}
	if in := p.there(); len(in) > 0 {
		out = append(out, in[0].path()...)
	}
	return out
}

func (p *plan) text() string {
	var within []string
	for _, part := range p.there() {
		within = append(within, part.text())
	}
	switch {
	case p.none():
		return ""
	case p.kind == 'f' && len(within) == 0:
		return fmt.Sprintf("f: %d", p.code)
	case p.kind == 'f' || p.kind == 'w':
		return string(p.kind) + ": " + within[0]
	case p.kind == 'j':
		return strings.Join(within, "; ")
	case p.kind == 's':
		return "several"
	}
	return string(p.kind)
}

// grown are the plans one step greater than these.
func grown(from []*plan) []*plan {
	out := []*plan{{kind: 'n'}, {kind: 'b'}, {kind: 'j'}, {kind: 's'}}
	for i, one := range from {
		code := []api.Code{api.OK, api.Quota, api.Full}[i%3]
		out = append(out, &plan{'f', code, []*plan{one}}, &plan{'w', 0, []*plan{one}}, &plan{'a', 0, []*plan{one}})
		for _, kind := range []byte("js") {
			out = append(out, &plan{kind, 0, []*plan{one}})
			for _, two := range from {
				out = append(out, &plan{kind, 0, []*plan{one, two}})
			}
		}
	}
	return out
}

func TestAllSmallErrors(t *testing.T) {
	small := grown([]*plan{{kind: 'n'}, {kind: 'b'}})
	for _, p := range grown(grown(small)[:160]) {
		err := p.build()
		if (err == nil) != p.none() {
			t.Fatalf("%s: %v", p.name(), err)
		}
		check(t, p.name(), err, want{p.first(), p.path(), p.text()})
		in := p.faults()
		for _, c := range []api.Code{api.OK, api.Quota, api.Full, api.Unspecified, api.Power} {
			if got := Has(err, c); got != slices.Contains(in, c) {
				t.Errorf("%s: Has(%d) = %v", p.name(), c, got)
			}
		}
	}
}
