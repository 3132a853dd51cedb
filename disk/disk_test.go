package disk

import (
	"fmt"
	"math"
	"strings"
	"testing"
	"unsafe"

	"aqueduct/api"
)

// The functions as the chapter lists them.
var (
	_ func(int) *Disk                     = New
	_ func(*Disk, int, string) api.Code   = (*Disk).Append
	_ func(*Disk, int) api.Code           = (*Disk).Sync
	_ func(*Disk, int) api.Code           = (*Disk).Clear
	_ func(*Disk, int) (string, api.Code) = (*Disk).Read
	_ func(*Disk, int) int                = (*Disk).Lasts
	_ func(*Disk, int, ...int)            = (*Disk).Cut
	_ func(*Disk, int)                    = (*Disk).Break
	_ func(*Disk, ...int)                 = (*Disk).Crash
	_ func(*Disk)                         = (*Disk).On
	_ func(*Disk) bool                    = (*Disk).Off
	_ [2]struct{}                         = [Files]struct{}{}
)

// noFiles are numbers of files that there aren't.
var noFiles = []int{-1, 2, -2, 3, 256, 1 << 32, math.MinInt, math.MinInt + 1, math.MaxInt}

func wantCode(t *testing.T, what string, got, want api.Code) {
	t.Helper()
	if got != want {
		t.Errorf("%s is answered by %d, not %d", what, got, want)
	}
}

// wantCodes makes several calls that must all be answered alike.
func wantCodes(t *testing.T, want api.Code, calls ...func() api.Code) {
	t.Helper()
	for i, call := range calls {
		wantCode(t, fmt.Sprintf("the call at %d", i), call(), want)
	}
}

// wantFiles holds what both files have, and how much of it lasts, against what they must have; the power must be on.
func wantFiles(t *testing.T, d *Disk, first string, lasts0 int, second string, lasts1 int) {
	t.Helper()
	for file, want := range []string{first, second} {
		if got, code := d.Read(file); got != want || code != api.OK {
			t.Errorf("the file %d is %.100q, %d, not %.100q", file, got, code, want)
		}
	}
	wantLasts(t, d, lasts0, lasts1)
	if d.Off() {
		t.Error("the power is off")
	}
}

func wantLasts(t *testing.T, d *Disk, want ...int) {
	t.Helper()
	for file, n := range want {
		if got := d.Lasts(file); got != n {
			t.Errorf("%d bytes of the file %d last, not %d", got, file, n)
		}
	}
	for _, file := range noFiles {
		if got := d.Lasts(file); got != 0 {
			t.Errorf("%d bytes of the file %d last", got, file)
		}
	}
}

// wantNoRead holds that a Read is answered by this code, and the empty text beside it.
func wantNoRead(t *testing.T, d *Disk, file int, want api.Code) {
	t.Helper()
	if s, code := d.Read(file); s != "" || code != want {
		t.Errorf("Read(%d) = %.100q, %d, not %d", file, s, code, want)
	}
}

// made is a disk of MaxDisk bytes; of each file these bytes last, and those stand behind them.
func made(t *testing.T, last0, loose0, last1, loose1 string) *Disk {
	t.Helper()
	d := New(api.MaxDisk)
	for file, s := range [][2]string{{last0, loose0}, {last1, loose1}} {
		wantCode(t, "Append", d.Append(file, s[0]), api.OK)
		wantCode(t, "Sync", d.Sync(file), api.OK)
		wantCode(t, "Append", d.Append(file, s[1]), api.OK)
	}
	return d
}

func TestExample(t *testing.T) {
	for keep, want := range map[int]string{2: "abcd", -1: "abcde"} {
		d := New(100)
		wantCode(t, "Append", d.Append(0, "ab"), api.OK)
		wantCode(t, "Sync", d.Sync(0), api.OK)
		wantCode(t, "Append", d.Append(0, "cde"), api.OK)
		d.Crash(keep)
		wantFiles(t, d, want, len(want), "", 0)
	}
}

// Of P11.1.

func TestNewDiskIsEmpty(t *testing.T) {
	for _, limit := range []int{math.MinInt, -1, 0, 1, 100, api.MaxDisk, api.MaxDisk + 1, math.MaxInt} {
		wantFiles(t, New(limit), "", 0, "", 0)
		// Nothing is asked for, either.
		d := New(limit)
		for range 10 {
			wantCodes(t, api.OK, func() api.Code { return d.Sync(0) }, func() api.Code { return d.Clear(1) }, func() api.Code { return d.Append(0, "") })
		}
		wantFiles(t, d, "", 0, "", 0)
	}
}

func TestNewTakesSoManyBytes(t *testing.T) {
	for limit, takes := range map[int]int{
		math.MinInt: 0, math.MinInt + 1: 0, -api.MaxDisk: 0, -2: 0, -1: 0, 0: 0, 1: 1, 2: 2, 100: 100,
		api.MaxDisk - 1: api.MaxDisk - 1, api.MaxDisk: api.MaxDisk, api.MaxDisk + 1: api.MaxDisk, 2 * api.MaxDisk: api.MaxDisk, math.MaxInt: api.MaxDisk,
	} {
		s := strings.Repeat("s", takes+1)
		for file := range Files {
			d := New(limit)
			wantCode(t, fmt.Sprintf("of %d, one byte beyond it", limit), d.Append(file, s), api.Full)
			wantFiles(t, d, "", 0, "", 0)
			wantCode(t, fmt.Sprintf("of %d, all", limit), d.Append(file, s[:takes]), api.OK)
			for more := range Files {
				wantCode(t, fmt.Sprintf("of %d, one byte more", limit), d.Append(more, "s"), api.Full)
			}
		}
	}
}

func TestNilDisk(t *testing.T) {
	var d *Disk
	for _, file := range append([]int{0, 1}, noFiles...) {
		wantCodes(t, api.Unspecified,
			func() api.Code { return d.Append(file, "ab") },
			func() api.Code { return d.Append(file, "") },
			func() api.Code { return d.Append(file, strings.Repeat("a", api.MaxDisk+1)) },
			func() api.Code { return d.Sync(file) },
			func() api.Code { return d.Clear(file) })
		wantNoRead(t, d, file, api.Unspecified)
		if d.Lasts(file) != 0 {
			t.Errorf("%d bytes of no disk last", d.Lasts(file))
		}
		d.Cut(file)
		d.Cut(file, 1, 2, 3)
		d.Break(file)
		d.Crash()
		d.Crash(file, file, file)
		d.On()
		if d.Off() {
			t.Error("no disk is off")
		}
	}
}

// Of P11.2.

func TestPowerIsToldAheadOfAll(t *testing.T) {
	d := made(t, "ab", "c", "", "x")
	d.Cut(1, 1)
	wantCode(t, "Clear", d.Clear(1), api.Power)
	tooMany := strings.Repeat("a", api.MaxDisk+1)
	for _, file := range append([]int{0, 1}, noFiles...) {
		wantCodes(t, api.Power,
			func() api.Code { return d.Append(file, "a") },
			func() api.Code { return d.Append(file, "") },
			func() api.Code { return d.Append(file, tooMany) },
			func() api.Code { return d.Sync(file) },
			func() api.Code { return d.Clear(file) })
		wantNoRead(t, d, file, api.Power)
	}
	if !d.Off() {
		t.Error("the power is on")
	}
	wantLasts(t, d, 3, 0)
	d.On()
	wantFiles(t, d, "abc", 3, "", 0)
}

func TestNothingIsToldAheadOfFull(t *testing.T) {
	d := New(3)
	wantCode(t, "Append", d.Append(0, "abc"), api.OK)
	for _, file := range noFiles {
		for range 2 {
			wantCodes(t, api.Nothing,
				func() api.Code { return d.Append(file, "a") },
				func() api.Code { return d.Append(file, "") },
				func() api.Code { return d.Append(file, "abcd") },
				func() api.Code { return d.Sync(file) },
				func() api.Code { return d.Clear(file) })
			wantNoRead(t, d, file, api.Nothing)
			d.Break(1) // full, whatever there is room for
		}
		d.Break(0)
		wantFiles(t, d, "abc", 0, "", 0)
	}
}

func TestAppendUpToTheLimit(t *testing.T) {
	const limit = 7
	for n := range limit + 3 {
		for m := range limit + 3 {
			d := New(limit)
			first, second, left := strings.Repeat("a", n), strings.Repeat("b", m), limit
			for file, s := range []string{first, second} {
				want := api.OK
				if len(s) > left {
					want = api.Full
				} else {
					left -= len(s)
				}
				wantCode(t, fmt.Sprintf("%d and %d bytes, file %d", n, m, file), d.Append(file, s), want)
			}
			if n > limit {
				first = ""
			}
			if len(first)+m > limit {
				second = ""
			}
			wantFiles(t, d, first, 0, second, 0)
			if t.Failed() {
				return
			}
		}
	}
}

func TestAppendBehindWhatIsThere(t *testing.T) {
	d := New(100)
	for i, s := range []string{"a", "", "bc", "\x00\xff", "é", "d"} {
		wantCode(t, "Append", d.Append(i%Files, s), api.OK)
	}
	wantFiles(t, d, "abcé", 0, "\x00\xffd", 0)
}

func TestFullDisk(t *testing.T) {
	d := New(5)
	wantCode(t, "Append", d.Append(0, "ab"), api.OK)
	wantCode(t, "Append", d.Append(1, "xyz"), api.OK)
	wantCode(t, "Sync", d.Sync(1), api.OK)
	for file := range Files {
		wantCode(t, "Append of a byte", d.Append(file, "c"), api.Full)
		wantCode(t, "Append of many", d.Append(file, strings.Repeat("c", 1<<20)), api.Full)
		wantCode(t, "Append of none", d.Append(file, ""), api.OK)
	}
	wantFiles(t, d, "ab", 0, "xyz", 3)
	// What stands in the files may still come to last, and go.
	wantCode(t, "Sync", d.Sync(0), api.OK)
	wantFiles(t, d, "ab", 2, "xyz", 3)
	wantCode(t, "Clear", d.Clear(1), api.OK)
	wantFiles(t, d, "ab", 2, "", 0)
}

func TestRoomAgainBehindClear(t *testing.T) {
	for file := range Files {
		d, other := New(5), 1-file
		wantCode(t, "Append", d.Append(file, "abc"), api.OK)
		wantCode(t, "Append", d.Append(other, "xy"), api.OK)
		wantCode(t, "Clear", d.Clear(file), api.OK)
		wantCode(t, "Append of too many", d.Append(other, "zzzz"), api.Full)
		wantCode(t, "Append", d.Append(other, "zzz"), api.OK)
		wantCode(t, "Append of one more", d.Append(file, "q"), api.Full)
	}
}

func TestRoomAgainBehindALossOfPower(t *testing.T) {
	for file := range Files {
		keep := [Files]int{}
		keep[file] = 1
		d, other := New(5), 1-file
		wantCode(t, "Append", d.Append(file, "abc"), api.OK)
		wantCode(t, "Append", d.Append(other, "xy"), api.OK)
		d.Crash(keep[:]...) // a byte is kept, four are gone
		wantCode(t, "Append of too many", d.Append(other, "zzzzz"), api.Full)
		wantCode(t, "Append", d.Append(other, "zzzz"), api.OK)
		wantCode(t, "Append of one more", d.Append(file, "q"), api.Full)
	}
}

func TestSyncOfOneFile(t *testing.T) {
	d := made(t, "ab", "c", "x", "yz")
	wantFiles(t, d, "abc", 2, "xyz", 1)
	wantCode(t, "Sync", d.Sync(1), api.OK)
	wantFiles(t, d, "abc", 2, "xyz", 3)
	wantCode(t, "Sync", d.Sync(1), api.OK)
	wantFiles(t, d, "abc", 2, "xyz", 3)
	wantCode(t, "Append", d.Append(0, "d"), api.OK)
	wantCode(t, "Sync", d.Sync(0), api.OK)
	wantFiles(t, d, "abcd", 4, "xyz", 3)
	d.Crash()
	wantFiles(t, d, "abcd", 4, "xyz", 3)
}

func TestSyncOfAnEmptyFile(t *testing.T) {
	d := made(t, "", "", "x", "y")
	wantCode(t, "Sync", d.Sync(0), api.OK)
	wantFiles(t, d, "", 0, "xy", 1)
}

func TestClearLastsAtOnce(t *testing.T) {
	for _, keep := range [][]int{nil, {-1, -1}, {1, 1}, {math.MaxInt, math.MinInt}} {
		d := made(t, "ab", "c", "x", "yz")
		wantCode(t, "Clear", d.Clear(0), api.OK)
		wantFiles(t, d, "", 0, "xyz", 1)
		wantCode(t, "Sync", d.Sync(1), api.OK)
		d.Crash(keep...)
		wantFiles(t, d, "", 0, "xyz", 3)
		wantCode(t, "Clear", d.Clear(0), api.OK)
		wantCode(t, "Clear", d.Clear(1), api.OK)
		wantFiles(t, d, "", 0, "", 0)
		// Of what is laid down behind it nothing lasts yet.
		wantCode(t, "Append", d.Append(1, "p"), api.OK)
		wantFiles(t, d, "", 0, "p", 0)
		d.Crash()
		wantFiles(t, d, "", 0, "", 0)
	}
}

func TestLastsWithThePowerOff(t *testing.T) {
	d := made(t, "ab", "cde", "", "xyz")
	wantLasts(t, d, 2, 0)
	d.Cut(1, 1, -2)
	wantCode(t, "Append", d.Append(0, "f"), api.Power)
	wantLasts(t, d, 3, 2)
	d.On()
	wantFiles(t, d, "abc", 3, "xy", 2)
}

func TestManySmallAppends(t *testing.T) {
	d, n := New(api.MaxDisk), 0
	for ; d.Append(n%Files, "a") == api.OK; n++ {
	}
	s, code := d.Read(1)
	if n != api.MaxDisk || s != strings.Repeat("a", n/2) || code != api.OK {
		t.Errorf("%d bytes are taken, of which %d stand in the file 1", n, len(s))
	}
}

// Of rule 4: what is handed in is not kept, and what is answered is new memory.

func TestTextsThatAreHandedInAreNotKept(t *testing.T) {
	memory := []byte("abc")
	d := New(10)
	wantCode(t, "Append", d.Append(0, unsafe.String(&memory[0], 3)), api.OK)
	wantCode(t, "Append", d.Append(1, unsafe.String(&memory[1], 2)), api.OK)
	clear(memory)
	wantFiles(t, d, "abc", 0, "bc", 0)
}

func TestTextsThatAreReadAreNewMemory(t *testing.T) {
	d := made(t, "ab", "cd", "", "xyz")
	first, _ := d.Read(0)
	second, _ := d.Read(0)
	if unsafe.StringData(first) == unsafe.StringData(second) {
		t.Error("texts share memory")
	}
	d.Crash(1)
	d.Append(0, "CD")
	third, _ := d.Read(0)
	d.Clear(0)
	d.Append(0, "ABCDEFG")
	if first != "abcd" || second != "abcd" || third != "abcCD" {
		t.Errorf("what was read is now %q, %q, %q", first, second, third)
	}
}

// What is gone from the files isn't kept behind them, either.
func TestWhatIsGoneIsNotKept(t *testing.T) {
	long := strings.Repeat("l", 1<<20)
	for name, gone := range map[string]func(d *Disk){
		"by Clear": func(d *Disk) { d.Clear(0) },
		"by Crash": func(d *Disk) { d.Crash(1) },
		"by Cut": func(d *Disk) {
			d.Cut(1, 1)
			d.Append(0, long)
		},
		"by Crash of all": func(d *Disk) { d.Crash() },
	} {
		d := made(t, "", long, "", "x")
		gone(d)
		if room := cap(d.files[0].bytes); room > 1<<10 {
			t.Errorf("what is gone %s keeps %d bytes", name, room)
		}
	}
}
