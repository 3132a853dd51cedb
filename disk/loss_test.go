package disk

import (
	"fmt"
	"math"
	"math/big"
	"slices"
	"strings"
	"testing"

	"aqueduct/api"
)

// Of P11.3: a loss of power.

// extremes are numbers at the ends of what an int may be.
var extremes = []int{math.MinInt, math.MinInt + 1, math.MinInt + 2, math.MinInt + 3, math.MaxInt, math.MaxInt - 1, math.MaxInt - 2, math.MaxInt - 3}

// keptOf is the beginning of loose bytes that the number k keeps, as the chapter reads, in numbers of any size.
func keptOf(k int, loose string) string {
	n, many := big.NewInt(int64(k)), big.NewInt(int64(len(loose)+1))
	if k < 0 {
		n.Neg(n.Add(n, big.NewInt(1)))
		fromEnd := n.Mod(n, many).Int64()
		return loose[:int64(len(loose))-fromEnd]
	}
	return loose[:n.Mod(n, many).Int64()]
}

func TestKeptOf(t *testing.T) {
	for k, want := range map[int]string{0: "", 1: "a", 2: "ab", 3: "abc", 4: "", 5: "a", 7: "abc", 8: "", 4001: "a",
		-1: "abc", -2: "ab", -3: "a", -4: "", -5: "abc", -8: "", -9: "abc", -4002: "ab", math.MaxInt: "abc", math.MinInt: "", math.MinInt + 1: "a"} {
		if got := keptOf(k, "abc"); got != want {
			t.Errorf("%d keeps %q, not %q", k, got, want)
		}
	}
}

// numbers are those at which the modulus of a few loose bytes turns over, and the extremes.
func numbers() []int {
	out := slices.Clone(extremes)
	for k := -20; k <= 20; k++ {
		out = append(out, k)
	}
	return append(out, 1<<32, -1<<32, 1000000007, -1000000007)
}

func TestCrashKeepsABeginning(t *testing.T) {
	for lasting := range 3 {
		for loose := range 8 {
			last, rest := "LST"[:lasting], "abcdefgh"[:loose]
			for _, k := range numbers() {
				want := last + keptOf(k, rest)
				d := made(t, last, rest, "x", "yz")
				d.Crash(k)
				wantFiles(t, d, want, len(want), "x", 1)
				d = made(t, "x", "yz", last, rest)
				d.Crash(0, k)
				wantFiles(t, d, "x", 1, want, len(want))
				if t.Failed() {
					t.Fatalf("of %q and %q with %d", last, rest, k)
				}
			}
		}
	}
}

func TestCrashOfBothFiles(t *testing.T) {
	for _, k0 := range numbers() {
		for _, k1 := range numbers() {
			first, second := "ab"+keptOf(k0, "cde"), keptOf(k1, "vwxyz")
			d := made(t, "ab", "cde", "", "vwxyz")
			d.Crash(k0, k1)
			wantFiles(t, d, first, len(first), second, len(second))
			if t.Failed() {
				t.Fatalf("with %d and %d", k0, k1)
			}
		}
	}
}

func TestNumbersThatAreNotThere(t *testing.T) {
	d := made(t, "ab", "cde", "x", "yz")
	d.Crash()
	wantFiles(t, d, "ab", 2, "x", 1)
	d = made(t, "ab", "cde", "x", "yz")
	d.Crash([]int{}...)
	wantFiles(t, d, "ab", 2, "x", 1)
	d = made(t, "ab", "cde", "x", "yz")
	d.Crash(-1)
	wantFiles(t, d, "abcde", 5, "x", 1)
	d = made(t, "ab", "cde", "x", "yz")
	d.Crash(-1, 1, -1, 7, math.MinInt)
	wantFiles(t, d, "abcde", 5, "xy", 2)
	d = made(t, "ab", "cde", "x", "yz")
	d.Crash(slices.Repeat([]int{1}, 1<<16)...)
	wantFiles(t, d, "abc", 3, "xy", 2)
}

func TestFilesThatLastWholeAreLeft(t *testing.T) {
	for _, k := range numbers() {
		d := made(t, "abc", "", "", "")
		d.Crash(k, k)
		wantFiles(t, d, "abc", 3, "", 0)
	}
}

func TestWhatIsKeptLasts(t *testing.T) {
	for _, k := range numbers() {
		d := made(t, "ab", "cdef", "", "wxyz")
		d.Crash(k, k)
		first, second := "ab"+keptOf(k, "cdef"), keptOf(k, "wxyz")
		for _, again := range numbers() {
			d.Crash(again, again)
			wantFiles(t, d, first, len(first), second, len(second))
		}
		// What comes behind it is lost alone.
		wantCode(t, "Append", d.Append(0, "mn"), api.OK)
		d.Crash(1)
		wantFiles(t, d, first+"m", len(first)+1, second, len(second))
	}
}

func TestLossOfLongFiles(t *testing.T) {
	long := strings.Repeat("l", 1<<20)
	for k, kept := range map[int]int{0: 0, 1: 1, 1 << 20: 1 << 20, 1<<20 + 1: 0, 1<<20 + 2: 1, -1: 1 << 20, -2: 1<<20 - 1, -1<<20 - 1: 0, -1<<20 - 2: 1 << 20} {
		d := made(t, "ab", long, "", "")
		d.Crash(k)
		wantFiles(t, d, "ab"+long[:kept], 2+kept, "", 0)
	}
}

// Of P11.3: Crash and On.

func TestCrashWithThePowerOff(t *testing.T) {
	for _, keep := range [][]int{nil, {0, 0}, {-1, -1}, {1}, {math.MinInt, math.MaxInt}} {
		d := made(t, "ab", "cde", "x", "yz")
		d.Cut(1, 2, 1)
		wantCode(t, "Sync", d.Sync(0), api.Power)
		if !d.Off() {
			t.Error("the power is on")
		}
		d.Crash(keep...)
		wantFiles(t, d, "abcd", 4, "xy", 2)
	}
}

func TestOnLosesNothing(t *testing.T) {
	d := made(t, "ab", "cde", "x", "yz")
	d.On()
	wantFiles(t, d, "abcde", 2, "xyz", 1)
	d.Cut(1, -1, -2)
	wantCode(t, "Clear", d.Clear(0), api.Power)
	d.On()
	wantFiles(t, d, "abcde", 5, "xy", 2)
	d.On()
	wantFiles(t, d, "abcde", 5, "xy", 2)
}

// Both take back what Cut and Break asked for, with the power on and off.
func TestCrashAndOnTakeBackWhatWasAsked(t *testing.T) {
	for name, back := range map[string]func(d *Disk){
		"On":    (*Disk).On,
		"Crash": func(d *Disk) { d.Crash(-1, -1) },
	} {
		for n := 1; n < 4; n++ {
			for asked, ask := range asks(n) {
				for _, off := range []bool{false, true} {
					d := New(1000)
					if off {
						switchOff(t, d)
					}
					ask(d)
					back(d)
					if d.Off() {
						t.Errorf("behind %s the power is off", name)
					}
					for range 6 {
						wantChanges(t, d, api.OK)
					}
					if t.Failed() {
						t.Fatalf("%s behind %s with %d, with the power off: %v", name, asked, n, off)
					}
				}
			}
		}
	}
}

// asks are the ways to ask for something of the n-th change.
func asks(n int) map[string]func(d *Disk) {
	return map[string]func(d *Disk){
		"Cut":   func(d *Disk) { d.Cut(n, 1, 1) },
		"Break": func(d *Disk) { d.Break(n) },
		"both": func(d *Disk) {
			d.Cut(n)
			d.Break(n)
		},
		"a Break that holds": func(d *Disk) {
			d.Break(1)
			d.Sync(0)
			d.Cut(n)
		},
	}
}

// switchOff takes the power from a disk, and leaves the files as they are.
func switchOff(t *testing.T, d *Disk) {
	t.Helper()
	d.Cut(1, -1, -1)
	wantCode(t, "Sync", d.Sync(0), api.Power)
	if !d.Off() {
		t.Fatal("the power is on")
	}
}

// wantChanges makes a change of each kind, and holds that all are answered by this code.
func wantChanges(t *testing.T, d *Disk, want api.Code) {
	t.Helper()
	for file := range Files {
		wantCode(t, "Append", d.Append(file, "a"), want)
		wantCode(t, "Sync", d.Sync(file), want)
		wantCode(t, "Clear", d.Clear(file), want)
	}
}

// Of P11.3: Cut.

// kinds are the kinds of changes, each on a file.
func kinds(file int) map[string]func(d *Disk) api.Code {
	return map[string]func(d *Disk) api.Code{
		"Append": func(d *Disk) api.Code { return d.Append(file, "n") },
		"Sync":   func(d *Disk) api.Code { return d.Sync(file) },
		"Clear":  func(d *Disk) api.Code { return d.Clear(file) },
	}
}

func TestCutAtEachKindOfChange(t *testing.T) {
	for file := range Files {
		for name, change := range kinds(file) {
			for _, k0 := range numbers() {
				for _, k1 := range []int{0, 1, 2, -1, -2, math.MinInt, math.MaxInt} {
					loose := [Files]string{"cd", "yz"}
					if name == "Append" {
						loose[file] += "n"
					}
					first, second := "ab"+keptOf(k0, loose[0]), "x"+keptOf(k1, loose[1])
					d := made(t, "ab", "cd", "x", "yz")
					d.Cut(1, k0, k1)
					wantCode(t, name, change(d), api.Power)
					if !d.Off() {
						t.Error("the power is on")
					}
					wantLasts(t, d, len(first), len(second))
					d.On()
					wantFiles(t, d, first, len(first), second, len(second))
					if t.Failed() {
						t.Fatalf("of %s of %d with %d, %d", name, file, k0, k1)
					}
				}
			}
		}
	}
}

func TestCutKeepsAPartOfAnAppend(t *testing.T) {
	for k, want := range map[int]string{0: "ab", 1: "abc", 2: "abcd", 3: "abcde", 4: "abcdef", 5: "ab", -1: "abcdef", -2: "abcde", -5: "ab"} {
		d := made(t, "ab", "c", "x", "y")
		d.Cut(1, k)
		wantCode(t, "Append", d.Append(0, "def"), api.Power)
		d.On()
		wantFiles(t, d, want, len(want), "x", 1)
	}
}

func TestCutAtTheNthChange(t *testing.T) {
	for n := 1; n <= 8; n++ {
		d := New(1000)
		d.Cut(n, -1, -1)
		want := ""
		for i := 1; i < n; i++ {
			wantCode(t, "Append", d.Append(i%Files, "a"), api.OK)
			if i%Files == 0 {
				want += "a"
			}
		}
		if d.Off() {
			t.Errorf("the power fails ahead of the change %d", n)
		}
		wantCode(t, fmt.Sprintf("the change %d", n), d.Clear(1), api.Power)
		if !d.Off() {
			t.Errorf("the power doesn't fail at the change %d", n)
		}
		d.On()
		wantFiles(t, d, want, len(want), strings.Repeat("a", n/2), n/2)
	}
}

func TestCutHappensOnce(t *testing.T) {
	for name, back := range map[string]func(d *Disk){"On": (*Disk).On, "Crash": func(d *Disk) { d.Crash() }} {
		d := made(t, "ab", "c", "x", "y")
		d.Cut(1, 1, 1)
		wantCode(t, "Sync", d.Sync(0), api.Power)
		for range 5 {
			wantChanges(t, d, api.Power)
			wantNoRead(t, d, 0, api.Power)
		}
		back(d)
		wantFiles(t, d, "abc", 3, "xy", 2)
		for range 5 {
			wantChanges(t, d, api.OK)
		}
		if d.Off() {
			t.Errorf("behind %s the power fails again", name)
		}
	}
}

// aside are calls that are no changes. The disk has room for some bytes, but not for a thousand.
func aside(t *testing.T, d *Disk) {
	t.Helper()
	for _, file := range noFiles {
		wantCode(t, "Append", d.Append(file, "a"), api.Nothing)
		wantCode(t, "Sync", d.Sync(file), api.Nothing)
		wantCode(t, "Clear", d.Clear(file), api.Nothing)
		wantNoRead(t, d, file, api.Nothing)
	}
	for file := range Files {
		wantCode(t, "Append of no byte", d.Append(file, ""), api.OK)
		wantCode(t, "Append of too many", d.Append(file, strings.Repeat("a", 1000)), api.Full)
		if _, code := d.Read(file); code != api.OK {
			t.Errorf("Read(%d) is answered by %d", file, code)
		}
		d.Lasts(file)
	}
	d.Off()
}

func TestWhatIsNoChangeDoesNotCount(t *testing.T) {
	for n := 1; n <= 4; n++ {
		cut, broken := New(500), New(500)
		cut.Cut(n)
		broken.Break(n)
		for i := 1; i < n; i++ {
			aside(t, cut)
			aside(t, broken)
			wantCode(t, "Append", cut.Append(0, "a"), api.OK)
			wantCode(t, "Append", broken.Append(0, "a"), api.OK)
		}
		aside(t, cut)
		aside(t, broken)
		wantCode(t, fmt.Sprintf("the change %d", n), cut.Append(0, "a"), api.Power)
		wantCode(t, fmt.Sprintf("the change %d", n), broken.Append(0, "a"), api.Full)
		// They are no changes behind it either: nothing befalls them.
		aside(t, broken)
	}
}

// With the power off nothing counts, either; that Crash and On take back all that was asked can't hide it from Lasts and Off.
func TestCallsWithThePowerOffDoNotCount(t *testing.T) {
	d := made(t, "ab", "c", "x", "y")
	d.Cut(1, 1)
	wantCode(t, "Sync", d.Sync(0), api.Power)
	d.Cut(2, -1, -1)
	d.Break(2)
	for range 4 {
		wantChanges(t, d, api.Power)
		wantLasts(t, d, 3, 1)
	}
	d.On()
	wantFiles(t, d, "abc", 3, "x", 1)
}

func TestCutBelowOneTakesBack(t *testing.T) {
	for _, n := range []int{0, -1, -2, math.MinInt, math.MinInt + 1} {
		d := New(1000)
		d.Cut(n, 1, 1)
		wantChanges(t, d, api.OK)
		d.Cut(2, 1, 1)
		wantCode(t, "Sync", d.Sync(0), api.OK)
		d.Cut(n)
		wantChanges(t, d, api.OK)
		// What Break asked for is left.
		d.Break(2)
		d.Cut(1)
		d.Cut(n, 1)
		wantCode(t, "Sync", d.Sync(0), api.OK)
		d.Cut(n)
		wantChanges(t, d, api.Full)
	}
}

func TestNewCutTakesThePlaceOfTheOneBefore(t *testing.T) {
	for first := 1; first <= 4; first++ {
		for second := 1; second <= 4; second++ {
			for between := range first {
				d := made(t, "", "abcd", "", "wxyz")
				d.Cut(first, -1, -1)
				for range between {
					wantCode(t, "Append", d.Append(0, "e"), api.OK)
				}
				d.Cut(second, 2)
				for range second - 1 {
					wantCode(t, "Append", d.Append(0, "e"), api.OK)
				}
				wantCode(t, "Append", d.Append(0, "e"), api.Power)
				d.On()
				wantFiles(t, d, "ab", 2, "", 0)
			}
		}
	}
}

// A list is read when it is handed in, is not kept, and isn't changed, nor is what lies behind it.
func TestNumbersThatAreHandedIn(t *testing.T) {
	memory := []int{1, -2, 7, 7}
	d := made(t, "ab", "cde", "x", "yz")
	d.Cut(1, memory[:2]...)
	memory[0], memory[1] = 0, 0
	wantCode(t, "Append", d.Append(0, "f"), api.Power)
	d.On()
	wantFiles(t, d, "abc", 3, "xy", 2)

	for _, n := range []int{0, 1, 2, -1} {
		memory = []int{1, 1, 1, 1}
		d = made(t, "ab", "cde", "x", "yz")
		d.Cut(n, memory[:1]...)
		d.Crash(memory[:1]...)
		wantFiles(t, d, "abc", 3, "x", 1)
		d.Cut(1, memory[:0]...)
		wantCode(t, "Append", d.Append(1, "yz"), api.Power)
		d.Crash(memory[:0]...)
		wantFiles(t, d, "abc", 3, "x", 1)
		if !slices.Equal(memory, []int{1, 1, 1, 1}) {
			t.Errorf("the list is now %v", memory)
		}
	}
}

func TestCutWithFewerAndMoreNumbers(t *testing.T) {
	for _, c := range []struct {
		keep          []int
		first, second string
	}{
		{nil, "ab", "x"}, {[]int{}, "ab", "x"}, {[]int{1}, "abc", "x"}, {[]int{-1}, "abcde", "x"},
		{[]int{1, 1}, "abc", "xy"}, {[]int{0, -1, -1}, "ab", "xyz"}, {[]int{2, 0, 1, 1, 1}, "abcd", "x"},
	} {
		d := made(t, "ab", "cde", "x", "yz")
		d.Cut(1, 3, 2) // whose numbers are gone with it
		d.Cut(1, c.keep...)
		wantCode(t, "Sync", d.Sync(1), api.Power)
		d.On()
		wantFiles(t, d, c.first, len(c.first), c.second, len(c.second))
	}
}

// Of P11.3: Break.

func TestBreakFromTheNthChangeOn(t *testing.T) {
	for n := 1; n <= 8; n++ {
		d := made(t, "ab", "c", "x", "yz")
		d.Break(n)
		for range n - 1 {
			wantCode(t, "Append", d.Append(0, "d"), api.OK)
		}
		for range 4 {
			wantChanges(t, d, api.Full)
			wantFiles(t, d, "abc"+strings.Repeat("d", n-1), 2, "xyz", 1)
		}
		d.Break(0)
		wantChanges(t, d, api.OK)
	}
}

func TestBreakAtEachKindOfChange(t *testing.T) {
	for file := range Files {
		for name, change := range kinds(file) {
			d := made(t, "ab", "c", "x", "yz")
			d.Break(1)
			wantCode(t, name, change(d), api.Full)
			wantFiles(t, d, "abc", 2, "xyz", 1)
			// A loss of power goes on as ever.
			d.Crash(1, 1)
			wantFiles(t, d, "abc", 3, "xy", 2)
		}
	}
}

func TestBreakBelowOneTakesBack(t *testing.T) {
	for _, n := range []int{0, -1, -2, math.MinInt, math.MinInt + 1} {
		d := New(1000)
		d.Break(n)
		wantChanges(t, d, api.OK)
		d.Break(2)
		wantCode(t, "Sync", d.Sync(0), api.OK)
		d.Break(n)
		wantChanges(t, d, api.OK)
		d.Break(1)
		wantChanges(t, d, api.Full)
		d.Break(n)
		wantChanges(t, d, api.OK)
		// What Cut asked for is left.
		d.Cut(2)
		d.Break(1)
		d.Break(n)
		wantCode(t, "Sync", d.Sync(0), api.OK)
		d.Break(n)
		wantCode(t, "Sync", d.Sync(0), api.Power)
	}
}

func TestNewBreakTakesThePlaceOfTheOneBefore(t *testing.T) {
	for first := 1; first <= 4; first++ {
		for second := 1; second <= 4; second++ {
			for between := range 5 {
				d := New(1000)
				d.Break(first)
				for i := range between {
					want := api.OK
					if i+1 >= first {
						want = api.Full
					}
					wantCode(t, "Sync", d.Sync(0), want)
				}
				d.Break(second)
				for range second - 1 {
					wantCode(t, "Sync", d.Sync(0), api.OK)
				}
				wantChanges(t, d, api.Full)
			}
		}
	}
}

// Counts as great as can be don't come to their change here, nor turn over.
func TestGreatestCounts(t *testing.T) {
	d := New(1000)
	d.Cut(math.MaxInt)
	d.Break(math.MaxInt)
	for range 100 {
		wantChanges(t, d, api.OK)
	}
}

// Of P11.3: both.

// Each change is counted by both, whichever befalls it: a change that Break befalls is one of "all further ones", and so a change.
func TestCutAndBreakTogether(t *testing.T) {
	for cut := range 6 {
		for full := range 6 {
			for _, cutFirst := range []bool{true, false} {
				d := made(t, "ab", "cd", "", "x")
				if cutFirst {
					d.Cut(cut, 1)
					d.Break(full)
				} else {
					d.Break(full)
					d.Cut(cut, 1)
				}
				off := false
				for i := 1; i <= 8; i++ {
					want := api.OK
					off = off || i == cut
					if off {
						want = api.Power
					} else if full > 0 && i >= full {
						want = api.Full
					}
					wantCode(t, fmt.Sprintf("with Cut(%d) and Break(%d) the change %d", cut, full, i), d.Append(1, "y"), want)
					if d.Off() != off {
						t.Errorf("with Cut(%d) and Break(%d), at %d the power is off: %v", cut, full, i, d.Off())
					}
				}
				if off {
					d.On()
					wantFiles(t, d, "abc", 3, "", 0)
				}
			}
		}
	}
}

// With both asked of one change it is Cut's: an Append's bytes stand there ahead of the loss of power.
func TestOfOneChangeItIsCuts(t *testing.T) {
	for n := 1; n <= 3; n++ {
		for full := 1; full <= n; full++ {
			d := made(t, "ab", "", "x", "")
			d.Break(full)
			d.Cut(n, -1, -1)
			for i := range n - 1 {
				want := api.OK
				if i+1 >= full {
					want = api.Full
				}
				wantCode(t, "Sync", d.Sync(0), want)
			}
			wantCode(t, "Append", d.Append(0, "cd"), api.Power)
			d.On()
			wantFiles(t, d, "abcd", 4, "x", 1)
		}
	}
}

// Of P2.

func TestTwoDisksHaveNothingToDoWithOneAnother(t *testing.T) {
	for name, do := range map[string]func(d *Disk){
		"Append": func(d *Disk) { d.Append(0, "more") },
		"Sync":   func(d *Disk) { d.Sync(0) },
		"Clear":  func(d *Disk) { d.Clear(0) },
		"Crash":  func(d *Disk) { d.Crash() },
		"Break":  func(d *Disk) { d.Break(1) },
		"Cut":    func(d *Disk) { d.Cut(1) },
		"off": func(d *Disk) {
			d.Cut(1)
			d.Clear(0)
		},
	} {
		one, other := made(t, "ab", "c", "x", "yz"), made(t, "ab", "c", "x", "yz")
		do(one)
		wantFiles(t, other, "abc", 2, "xyz", 1)
		wantChanges(t, other, api.OK)
		if t.Failed() {
			t.Fatalf("behind %s of another one", name)
		}
	}
}
