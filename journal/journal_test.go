package journal

import (
	"errors"
	"slices"
	"strings"
	"testing"
	"unsafe"

	"aqueduct/api"
	"aqueduct/disk"
	"aqueduct/fault"
)

// The functions as the chapter lists them.
var (
	_ func(string) int                                     = Sum
	_ func(string) (string, api.Code)                      = Frame
	_ func(string, int) (string, int, api.Code)            = Unframe
	_ func(*disk.Disk) (*Journal, string, []string, error) = Open
	_ func(*Journal, string) error                         = (*Journal).Add
	_ func(*Journal) error                                 = (*Journal).Sync
	_ func(*Journal, string) error                         = (*Journal).Compact
	_ func(*Journal) int                                   = (*Journal).Gen
)

const enough = 1 << 20 // bytes of a disk

var (
	longest = strings.Repeat("l", api.MaxRecord-1) // of what a state or a record may be
	tooLong = longest + "l"
)

// wantCode holds what an error tells against a code; nil is OK.
func wantCode(t *testing.T, what string, err error, want api.Code) {
	t.Helper()
	if (err == nil) != (want == api.OK) || fault.CodeOf(err) != want {
		t.Errorf("%s is answered by %v, not by %d", what, err, want)
	}
	if err != nil && (!fault.Has(err, want) || !errors.Is(err, fault.Of(want))) {
		t.Errorf("in %v of %s there is no fault of %d", err, what, want)
	}
}

// open opens a disk's journal, and holds what that tells.
func open(t *testing.T, d *disk.Disk, gen int, state string, records ...string) *Journal {
	t.Helper()
	j, gotState, gotRecords, err := Open(d)
	wantCode(t, "Open", err, api.OK)
	if j == nil || j.Gen() != gen || gotState != state || !slices.Equal(gotRecords, records) {
		t.Errorf("Open tells the generation %d, %.40q, %.200q, not %d, %.40q, %.200q", j.Gen(), gotState, gotRecords, gen, state, records)
	}
	return j
}

// wantNotOpen holds that Open is answered by this code, and by nothing beside it.
func wantNotOpen(t *testing.T, d *disk.Disk, want api.Code) {
	t.Helper()
	j, state, records, err := Open(d)
	wantCode(t, "Open", err, want)
	if j != nil || state != "" || len(records) > 0 {
		t.Errorf("beside %d Open tells %v, %.40q, %.200q", want, j, state, records)
	}
}

// wantFiles holds what both files have.
func wantFiles(t *testing.T, d *disk.Disk, want ...string) {
	t.Helper()
	for file, s := range want {
		if got, code := d.Read(file); got != s || code != api.OK {
			t.Errorf("the file %d is %.200q, %d, not %.200q", file, got, code, s)
		}
	}
}

func wantLasts(t *testing.T, d *disk.Disk, want ...int) {
	t.Helper()
	for file, n := range want {
		if got := d.Lasts(file); got != n {
			t.Errorf("%d bytes of the file %d last, not %d", got, file, n)
		}
	}
}

// wantLasting holds what both files have, and that all of it lasts.
func wantLasting(t *testing.T, d *disk.Disk, first, second string) {
	t.Helper()
	wantFiles(t, d, first, second)
	wantLasts(t, d, len(first), len(second))
}

// laid is a disk with these files, all of which lasts.
func laid(t *testing.T, first, second string) *disk.Disk {
	t.Helper()
	d := disk.New(api.MaxDisk)
	for file, s := range []string{first, second} {
		if d.Append(file, s) != api.OK || d.Sync(file) != api.OK {
			t.Fatal("the disk is too small")
		}
	}
	return d
}

// frames are those of bodies.
func frames(bodies ...string) string {
	out := ""
	for _, body := range bodies {
		out += plainFrame(body)
	}
	return out
}

func TestExample(t *testing.T) {
	for keep, want := range map[int][]string{0: {"a"}, 1: {"a"}, 8: {"a"}, 9: {"a", "bc"}, 10: {"a"}, -1: {"a", "bc"}, -2: {"a"}} {
		d := disk.New(enough)
		j := open(t, d, 1, "")
		wantCode(t, "Add", j.Add("a"), api.OK)
		wantCode(t, "Sync", j.Sync(), api.OK)
		wantCode(t, "Add", j.Add("bc"), api.OK)
		d.Crash(keep)
		open(t, d, 2, "", want...)
	}
}

// Of P12.4.

func TestNilJournal(t *testing.T) {
	var j *Journal
	for _, s := range []string{"", "a", longest, tooLong} {
		wantCode(t, "Add", j.Add(s), api.Unspecified)
		wantCode(t, "Compact", j.Compact(s), api.Unspecified)
		wantCode(t, "Sync", j.Sync(), api.Unspecified)
	}
	if j.Gen() != 0 {
		t.Errorf("the generation is %d", j.Gen())
	}
}

func TestAddAndSync(t *testing.T) {
	d := disk.New(enough)
	j := open(t, d, 1, "")
	start := fileOf(1, "")
	wantLasting(t, d, start, "")
	wantCode(t, "Add", j.Add("a"), api.OK)
	wantFiles(t, d, start+frames("ra"), "")
	wantLasts(t, d, len(start), 0)
	wantCode(t, "Add", j.Add(""), api.OK)
	wantCode(t, "Add", j.Add("r\x00\xff"), api.OK)
	wantFiles(t, d, start+frames("ra", "r", "rr\x00\xff"), "")
	wantLasts(t, d, len(start), 0)
	wantCode(t, "Sync", j.Sync(), api.OK)
	wantLasting(t, d, start+frames("ra", "r", "rr\x00\xff"), "")
	wantCode(t, "Sync", j.Sync(), api.OK)
	wantCode(t, "Add", j.Add("b"), api.OK)
	wantLasts(t, d, len(start+frames("ra", "r", "rr\x00\xff")), 0)
	if j.Gen() != 1 {
		t.Errorf("the generation is %d", j.Gen())
	}
	open(t, d, 2, "", "a", "", "r\x00\xff", "b")
}

// Into the journal's file, whichever it is, and behind Compact into the new one.
func TestAddAndSyncBehindCompact(t *testing.T) {
	d := disk.New(enough)
	j := open(t, d, 1, "")
	wantCode(t, "Add", j.Add("a"), api.OK)
	old, laid := fileOf(1, "")+frames("ra"), fileOf(2, "state")
	wantCode(t, "Compact", j.Compact("state"), api.OK)
	wantCode(t, "Add", j.Add("b"), api.OK)
	wantFiles(t, d, old, laid+frames("rb"))
	wantLasts(t, d, len(fileOf(1, "")), len(laid))
	wantCode(t, "Sync", j.Sync(), api.OK)
	wantFiles(t, d, old, laid+frames("rb"))
	wantLasts(t, d, len(fileOf(1, "")), len(laid+frames("rb")))
	open(t, d, 3, "state", "b")
}

func TestGen(t *testing.T) {
	d := disk.New(enough)
	want := 0
	for range 5 {
		j, _, _, _ := Open(d)
		want++
		for range 4 {
			if j.Gen() != want || j.Gen() != want {
				t.Fatalf("the generation is %d, not %d", j.Gen(), want)
			}
			wantCode(t, "Add", j.Add("a"), api.OK)
			wantCode(t, "Sync", j.Sync(), api.OK)
			if j.Gen() != want {
				t.Fatalf("behind Add and Sync the generation is %d, not %d", j.Gen(), want)
			}
			wantCode(t, "Compact", j.Compact("c"), api.OK)
			want++
		}
		if j.Gen() != want {
			t.Fatalf("behind Compact the generation is %d, not %d", j.Gen(), want)
		}
	}
}

func TestTooLargeChangesNothing(t *testing.T) {
	d := disk.New(api.MaxDisk)
	j := open(t, d, 1, "")
	wantCode(t, "Add", j.Add("a"), api.OK)
	wantCode(t, "Sync", j.Sync(), api.OK)
	for _, s := range []string{tooLong, tooLong + "l", strings.Repeat("l", 1<<20)} {
		for range 2 {
			wantCode(t, "Add", j.Add(s), api.TooLarge)
			wantCode(t, "Compact", j.Compact(s), api.TooLarge)
			wantLasting(t, d, fileOf(1, "")+frames("ra"), "")
			if j.Gen() != 1 {
				t.Errorf("the generation is %d", j.Gen())
			}
		}
	}
	// It goes on.
	wantCode(t, "Add", j.Add(longest), api.OK)
	wantCode(t, "Sync", j.Sync(), api.OK)
	wantLasting(t, d, fileOf(1, "")+frames("ra", "r"+longest), "")
	wantCode(t, "Compact", j.Compact(longest), api.OK)
	wantLasting(t, d, fileOf(1, "")+frames("ra", "r"+longest), fileOf(2, longest))
	wantCode(t, "Add", j.Add(tooLong), api.TooLarge)
	wantCode(t, "Add", j.Add("b"), api.OK)
	open(t, d, 3, longest, "b")
}

// Calls that the disk's own limit refuses, or Cut, or Break.
func TestBehindACodeOfTheDiskThereIsNothing(t *testing.T) {
	add := func(j *Journal) error { return j.Add("ab") }
	compact := func(j *Journal) error { return j.Compact("c") }
	for name, c := range map[string]struct {
		limit int
		ask   func(d *disk.Disk)
		call  func(j *Journal) error
		want  api.Code
	}{
		"Add with the power cut":            {enough, func(d *disk.Disk) { d.Cut(1) }, add, api.Power},
		"Add with the power cut, all kept":  {enough, func(d *disk.Disk) { d.Cut(1, -1, -1) }, add, api.Power},
		"Add on a full disk":                {enough, func(d *disk.Disk) { d.Break(1) }, add, api.Full},
		"Add beyond the limit":              {29 + 8, nothing, add, api.Full},
		"Add with the power off":            {enough, switchOff, add, api.Power},
		"Sync with the power cut":           {enough, func(d *disk.Disk) { d.Cut(1) }, (*Journal).Sync, api.Power},
		"Sync on a full disk":               {enough, func(d *disk.Disk) { d.Break(1) }, (*Journal).Sync, api.Full},
		"Sync with the power off":           {enough, switchOff, (*Journal).Sync, api.Power},
		"Compact with the power cut at 1":   {enough, func(d *disk.Disk) { d.Cut(1) }, compact, api.Power},
		"Compact with the power cut at 2":   {enough, func(d *disk.Disk) { d.Cut(2) }, compact, api.Power},
		"Compact with the power cut at 3":   {enough, func(d *disk.Disk) { d.Cut(3, -1, -1) }, compact, api.Power},
		"Compact on a disk that is full, 1": {enough, func(d *disk.Disk) { d.Break(1) }, compact, api.Full},
		"Compact on a disk that is full, 2": {enough, func(d *disk.Disk) { d.Break(2) }, compact, api.Full},
		"Compact on a disk that is full, 3": {enough, func(d *disk.Disk) { d.Break(3) }, compact, api.Full},
		"Compact beyond the limit":          {29 + 29, nothing, compact, api.Full},
		"Compact with the power off":        {enough, switchOff, compact, api.Power},
	} {
		d := disk.New(c.limit)
		j := open(t, d, 1, "")
		c.ask(d)
		wantCode(t, name, c.call(j), c.want)
		// With the disk as good as new, too.
		d.On()
		wantAllNothing(t, d, j, 1)
		d.Crash(-1, -1)
		wantAllNothing(t, d, j, 1)
		if t.Failed() {
			t.Fatalf("behind %s", name)
		}
	}
}

func nothing(*disk.Disk) {}

func switchOff(d *disk.Disk) {
	d.Cut(1, -1, -1)
	d.Sync(0)
}

// wantAllNothing holds that a journal does nothing any more.
func wantAllNothing(t *testing.T, d *disk.Disk, j *Journal, gen int) {
	t.Helper()
	first, _ := d.Read(0)
	second, _ := d.Read(1)
	lasts := []int{d.Lasts(0), d.Lasts(1)}
	d.Cut(1) // at any change
	for range 2 {
		for _, s := range []string{"", "a", longest, tooLong} {
			wantCode(t, "Add", j.Add(s), api.Nothing)
			wantCode(t, "Sync", j.Sync(), api.Nothing)
			wantCode(t, "Compact", j.Compact(s), api.Nothing)
		}
	}
	if d.Off() {
		t.Error("there was a change")
	}
	d.Cut(0)
	wantFiles(t, d, first, second)
	wantLasts(t, d, lasts...)
	if j.Gen() != gen {
		t.Errorf("the generation is %d, not %d", j.Gen(), gen)
	}
}

// A journal that was opened behind it is another one: that goes on.
func TestOpenBehindACodeOfTheDisk(t *testing.T) {
	d := disk.New(enough)
	old := open(t, d, 1, "")
	wantCode(t, "Add", old.Add("a"), api.OK)
	d.Break(1)
	wantCode(t, "Sync", old.Sync(), api.Full)
	wantNotOpen(t, d, api.Full)
	d.Break(0)
	j := open(t, d, 2, "", "a")
	wantCode(t, "Add", j.Add("b"), api.OK)
	wantCode(t, "Sync", j.Sync(), api.OK)
	wantAllNothing(t, d, old, 1)
	open(t, d, 3, "", "a", "b")
}

// Of each call so many changes of the disk are made: the last one of them may be befallen, and the one behind them is none of the call's.
func TestHowManyChangesACallMakes(t *testing.T) {
	for name, c := range map[string]struct {
		call    func(d *disk.Disk, j *Journal) error
		changes int
	}{
		"Open": {func(d *disk.Disk, j *Journal) error {
			_, _, _, err := Open(d)
			return err
		}, 3},
		"Add":                     {func(d *disk.Disk, j *Journal) error { return j.Add("") }, 1},
		"Sync":                    {func(d *disk.Disk, j *Journal) error { return j.Sync() }, 1},
		"Compact":                 {func(d *disk.Disk, j *Journal) error { return j.Compact("") }, 3},
		"Gen":                     {func(d *disk.Disk, j *Journal) error { j.Gen(); return nil }, 0},
		"Add that is refused":     {func(d *disk.Disk, j *Journal) error { j.Add(tooLong); return nil }, 0},
		"Compact that is refused": {func(d *disk.Disk, j *Journal) error { j.Compact(tooLong); return nil }, 0},
	} {
		for n := 1; n <= 5; n++ {
			d := disk.New(enough)
			j := open(t, d, 1, "")
			d.Cut(n)
			want := api.OK
			if n <= c.changes {
				want = api.Power
			}
			wantCode(t, name, c.call(d, j), want)
			if d.Off() != (n <= c.changes) {
				t.Errorf("%s: is there a change %d?", name, n)
			}
		}
	}
}

// Of rule 4: what is handed in is not kept, nor is what is answered handed out again.
func TestTextsThatAreHandedInAreNotKept(t *testing.T) {
	memory := []byte("abc")
	text := unsafe.String(&memory[0], len(memory))
	d := disk.New(enough)
	j := open(t, d, 1, "")
	wantCode(t, "Compact", j.Compact(text), api.OK)
	wantCode(t, "Add", j.Add(text), api.OK)
	clear(memory)
	wantFiles(t, d, fileOf(1, ""), fileOf(2, "abc")+frames("rabc"))
	open(t, d, 3, "abc", "abc")
}

func TestRecordsThatAreToldAreNewMemory(t *testing.T) {
	d := laid(t, fileOf(1, "s", "a", "b", "c"), "")
	_, _, first, _ := Open(d)
	clear(first)
	j, _, second, _ := Open(d)
	second = append(second[:1], "x", "y")
	wantCode(t, "Add", j.Add("d"), api.OK)
	open(t, d, 4, "s", "a", "b", "c", "d")
	if !slices.Equal(second, []string{"a", "x", "y"}) {
		t.Errorf("what was told is now %q", second)
	}
}

// Of P2.

func TestTwoJournalsHaveNothingToDoWithOneAnother(t *testing.T) {
	for name, do := range map[string]func(d *disk.Disk, j *Journal){
		"Add":     func(d *disk.Disk, j *Journal) { j.Add("more") },
		"Sync":    func(d *disk.Disk, j *Journal) { j.Sync() },
		"Compact": func(d *disk.Disk, j *Journal) { j.Compact("other") },
		"Open":    func(d *disk.Disk, j *Journal) { Open(d) },
		"a code": func(d *disk.Disk, j *Journal) {
			d.Break(1)
			j.Sync()
		},
		"a loss of power": func(d *disk.Disk, j *Journal) {
			d.Cut(1)
			j.Add("more")
		},
	} {
		d, other := disk.New(enough), disk.New(enough)
		j, left := open(t, d, 1, ""), open(t, other, 1, "")
		wantCode(t, "Add", left.Add("a"), api.OK)
		do(d, j)
		wantFiles(t, other, fileOf(1, "")+frames("ra"), "")
		wantLasts(t, other, len(fileOf(1, "")), 0)
		wantCode(t, "Add", left.Add("b"), api.OK)
		wantCode(t, "Sync", left.Sync(), api.OK)
		wantCode(t, "Compact", left.Compact("c"), api.OK)
		open(t, other, 3, "c")
		if t.Failed() {
			t.Fatalf("behind %s of another one", name)
		}
	}
}
