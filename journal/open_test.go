package journal

import (
	"fmt"
	"math"
	"slices"
	"strings"
	"testing"

	"aqueduct/api"
	"aqueduct/disk"
	"aqueduct/fault"
)

// Of P12.2.

func TestOpenOfNoDisk(t *testing.T) {
	wantNotOpen(t, nil, api.Unspecified)
}

func TestOpenWithThePowerOff(t *testing.T) {
	for _, files := range [][2]string{{"", ""}, {fileOf(1, "s", "a"), "x"}, {"x", fileOf(1, "s", "a")}} {
		d := laid(t, files[0], files[1])
		switchOff(d)
		for range 2 {
			wantNotOpen(t, d, api.Power)
		}
		if !d.Off() {
			t.Error("the power is on")
		}
		d.On()
		wantLasting(t, d, files[0], files[1])
	}
}

func TestOpenOfANewDisk(t *testing.T) {
	d := disk.New(enough)
	open(t, d, 1, "")
	wantLasting(t, d, fileOf(1, ""), "")
	open(t, d, 2, "")
	wantLasting(t, d, fileOf(1, ""), fileOf(2, ""))
	open(t, d, 3, "")
	wantLasting(t, d, fileOf(3, ""), fileOf(2, ""))
}

// The bytes themselves, so that nothing hangs on how the tests make a file.
func TestBytesOfAFile(t *testing.T) {
	d := disk.New(enough)
	j := open(t, d, 1, "")
	wantCode(t, "Compact", j.Compact("123456"), api.OK)
	wantCode(t, "Add", j.Add("9"), api.OK)
	const head, middle = "\x00\x00\x00\x10\xba\x26AQUEDUCT\x00\x00\x00\x02\x00\x00\x00\x01", "\x00\x00\x00\x07\x8d\xc9s123456"
	wantFiles(t, d, fileOf(1, ""), head+middle+"\x00\x00\x00\x02\xd4\x4er9")
}

// notWhole are files' bytes that aren't whole, of a generation that would be the greater one.
func notWhole() map[string]string {
	head := func(n uint32) string { return plainHead(100, n) }
	good := fileOf(100, "s", "a")
	out := map[string]string{
		"no bytes":                         "",
		"a byte":                           "A",
		"noughts":                          strings.Repeat("\x00", 100),
		"other bytes":                      strings.Repeat("AQUEDUCT", 20),
		"a byte ahead":                     "x" + good,
		"a frame ahead":                    frames("r") + good,
		"only a head":                      frames(head(1)),
		"no head":                          frames("ss", "ra"),
		"a head that is broken":            turned(good, 10),
		"a check sum that is broken":       turned(good, 4),
		"a head that is empty but good":    frames("A", "ss", "ra"),
		"a head without numbers":           frames("AQUEDUCT", "ss", "ra"),
		"a head with one number":           frames(head(1)[:12], "ss", "ra"),
		"a head that is too short":         frames(head(1)[:15], "ss", "ra"),
		"a head that is too long":          frames(head(1)+"\x00", "ss", "ra"),
		"a head that is much too long":     frames(head(1)+head(1), "ss", "ra"),
		"the generation 0":                 frames(plainHead(0, 1), "ss", "ra"),
		"the generation and n 0":           frames(plainHead(0, 0), "ss"),
		"n of 0, nothing behind":           frames(head(0)),
		"n of 0, frames behind":            frames(head(0), "ss", "ra"),
		"one too few of 1":                 frames(head(1)) + plainFrame("ss")[:7],
		"one too few of 2":                 frames(head(2), "ss"),
		"one too few of 3":                 frames(head(3), "ss", "ra"),
		"a byte too few":                   frames(head(3), "ss", "ra", "rb")[:len(frames(head(3), "ss", "ra", "rb"))-1],
		"much too few":                     frames(head(1<<31), "ss", "ra"),
		"too few by the greatest n":        frames(head(1<<32-1), "ss", "ra"),
		"the first one broken":             frames(head(1)) + turned(plainFrame("ss"), 7) + frames("ra"),
		"the second one broken":            frames(head(2), "ss") + turned(plainFrame("ra"), 7) + frames("rb", "rc"),
		"the last one broken":              frames(head(3), "ss", "ra") + turned(plainFrame("rb"), 7),
		"a frame of no body among them":    frames(head(2), "ss") + "\x00\x00\x00\x00\xff\xff" + frames("ra"),
		"the first one with r":             frames(head(1), "rs", "ra"),
		"the first one with S":             frames(head(1), "Ss", "ra"),
		"the first one with another byte":  frames(head(1), "\x00s", "ra"),
		"the first one with r, then one":   frames(head(1), "ra", "ss"),
		"the second one with s":            frames(head(2), "ss", "sa"),
		"the second one with R":            frames(head(2), "ss", "Ra"),
		"the second one with another byte": frames(head(2), "ss", "xa", "rb"),
		"the third one with s":             frames(head(3), "ss", "ra", "sb"),
		"the second one with s, of many":   frames(head(4), "ss", "sa", "rb", "rc", "rd"),
		"a state too long":                 frames(head(1), "s"+tooLong),
		"a record among them too long":     frames(head(2), "ss", "r"+tooLong),
		"a head alone behind a good one":   frames(head(2)) + good,
	}
	for at := range "AQUEDUCT" {
		b := []byte(head(1))
		b[at] ^= 0x20
		out[fmt.Sprintf("another byte of the head's at %d", at)] = frames(string(b), "ss", "ra")
	}
	return out
}

func turned(s string, at int) string {
	b := []byte(s)
	b[at] ^= 1
	return string(b)
}

// In each file, with the other one empty, not whole either, or whole.
func TestFilesThatAreNotWhole(t *testing.T) {
	good := fileOf(7, "good", "x", "y")
	for name, bad := range notWhole() {
		if has, whole := parse(bad); whole || has.generation != 0 || has.state != "" || len(has.records) > 0 {
			t.Errorf("%s: whole", name)
		}
		for _, c := range []struct {
			first, second string // what is there
			at            int    // the file that is laid
			gen           int
			state         string
			records       []string
		}{
			{bad, "", 0, 1, "", nil},
			{"", bad, 0, 1, "", nil},
			{bad, bad, 0, 1, "", nil},
			{"other bytes", bad, 0, 1, "", nil},
			{bad, good, 0, 8, "good", []string{"x", "y"}},
			{good, bad, 1, 8, "good", []string{"x", "y"}},
		} {
			d := laid(t, c.first, c.second)
			open(t, d, c.gen, c.state, c.records...)
			want := [2]string{c.first, c.second}
			want[c.at] = fileOf(c.gen, c.state, c.records...)
			wantLasting(t, d, want[0], want[1])
			open(t, d, c.gen+1, c.state, c.records...)
			if t.Failed() {
				t.Fatalf("%s: of %.100q and %.100q", name, c.first, c.second)
			}
		}
	}
}

func TestWholeFiles(t *testing.T) {
	some := strings.Split(strings.Repeat("r,", 299)+"r", ",")
	for name, c := range map[string]struct {
		n       uint32
		behind  string // what stands behind the head
		state   string
		records []string
	}{
		"a state":                       {1, frames("sstate"), "state", nil},
		"an empty state":                {1, frames("s"), "", nil},
		"a record":                      {2, frames("sstate", "ra"), "state", []string{"a"}},
		"records":                       {4, frames("sstate", "ra", "rbc", "rd"), "state", []string{"a", "bc", "d"}},
		"empty ones":                    {4, frames("s", "r", "ra", "r"), "", []string{"", "a", ""}},
		"a record behind n":             {1, frames("sstate", "ra"), "state", []string{"a"}},
		"records behind n":              {2, frames("sstate", "ra", "rbc", "r"), "state", []string{"a", "bc", ""}},
		"many behind n":                 {100, frames("sstate") + frames(some...), "state", make([]string, 300)},
		"the state's own bytes":         {2, frames("ssr\x00\xff", "rrs\x00\xff"), "sr\x00\xff", []string{"rs\x00\xff"}},
		"the longest state":             {1, frames("s" + longest), longest, nil},
		"the longest records":           {2, frames("s", "r"+longest, "r"+longest), "", []string{longest, longest}},
		"a byte behind":                 {1, frames("sstate") + "x", "state", nil},
		"noughts behind":                {1, frames("sstate", "ra") + strings.Repeat("\x00", 50), "state", []string{"a"}},
		"other bytes, then frames":      {1, frames("sstate", "ra") + "x" + frames("rb"), "state", []string{"a"}},
		"half a frame":                  {2, frames("sstate", "ra") + plainFrame("rb")[:7], "state", []string{"a"}},
		"half a frame, then a good one": {2, frames("sstate", "ra") + plainFrame("rbcdefgh")[:9] + frames("rb"), "state", []string{"a"}},
		"a broken frame":                {1, frames("sstate", "ra") + turned(plainFrame("rb"), 7), "state", []string{"a"}},
		"a broken frame, then good":     {1, frames("sstate", "ra") + turned(plainFrame("rb"), 7) + frames("rc"), "state", []string{"a"}},
		"a broken frame at once":        {1, frames("sstate") + turned(plainFrame("ra"), 5) + frames("rb"), "state", nil},
		"a frame with s":                {1, frames("sstate", "ra", "sb", "rc"), "state", []string{"a"}},
		"a frame with s at once":        {1, frames("sstate", "sb", "rc"), "state", nil},
		"a frame with another byte":     {2, frames("sstate", "ra", "Rb", "rc"), "state", []string{"a"}},
		"a whole file behind":           {2, frames("sstate", "ra") + fileOf(9, "other", "b"), "state", []string{"a"}},
		"a record too long":             {1, frames("sstate", "ra", "r"+tooLong, "rb"), "state", []string{"a"}},
	} {
		for _, generation := range []int{1, 2, 255, 256, 65536, 1<<31 - 2} {
			s, laidThen := frames(plainHead(uint32(generation), c.n))+c.behind, fileOf(generation+1, c.state, c.records...)
			d := laid(t, s, "other bytes")
			open(t, d, generation+1, c.state, c.records...)
			wantLasting(t, d, s, laidThen)
			d = laid(t, "", s)
			open(t, d, generation+1, c.state, c.records...)
			wantLasting(t, d, laidThen, s)
			if t.Failed() {
				t.Fatalf("%s: of %.100q", name, s)
			}
		}
	}
}

// What doesn't last yet is told, too: it stands there.
func TestOpenOfBytesThatDoNotLast(t *testing.T) {
	d := disk.New(enough)
	s := fileOf(4, "state", "a") + frames("rb")
	d.Append(1, s)
	open(t, d, 5, "state", "a", "b")
	wantFiles(t, d, fileOf(5, "state", "a", "b"), s)
	wantLasts(t, d, len(fileOf(5, "state", "a", "b")), 0)
}

func TestBothFilesWhole(t *testing.T) {
	generations := []int{1, 2, 3, 127, 128, 255, 256, 257, 65535, 65536, 1 << 24, 1<<31 - 3, 1<<31 - 2}
	for _, g0 := range generations {
		for _, g1 := range generations {
			first, second := fileOf(g0, "first", "a", "b")+frames("rc"), fileOf(g1, "second")+"x"
			d := laid(t, first, second)
			if g1 > g0 {
				open(t, d, g1+1, "second")
				wantLasting(t, d, fileOf(g1+1, "second"), second)
			} else {
				open(t, d, g0+1, "first", "a", "b", "c")
				wantLasting(t, d, first, fileOf(g0+1, "first", "a", "b", "c"))
			}
			if t.Failed() {
				t.Fatalf("of the generations %d and %d", g0, g1)
			}
		}
	}
}

// What the records were among the n frames, and what behind them, is one and the same; all are among them in the file that is laid.
func TestOpenAgainTellsTheSame(t *testing.T) {
	d := disk.New(enough)
	j := open(t, d, 1, "")
	wantCode(t, "Compact", j.Compact("state"), api.OK)
	want, gen := []string(nil), 2
	for i := range 5 {
		wantCode(t, "Add", j.Add(fmt.Sprint(i)), api.OK)
		want = append(want, fmt.Sprint(i))
		for range 3 {
			gen++
			j = open(t, d, gen, "state", want...)
			s, _ := d.Read((gen + 1) % 2)
			if s != fileOf(gen, "state", want...) || d.Lasts((gen+1)%2) != len(s) {
				t.Fatalf("with the generation %d %q is laid", gen, s)
			}
		}
	}
}

// Of P12.3.

// The files are laid by turns, whoever lays them.
func TestIntoWhichFileIsLaid(t *testing.T) {
	for first := range 2 {
		files := [2]string{}
		files[first] = fileOf(10, "s", "a")
		d := laid(t, files[0], files[1])
		at, gen, state, records := first, 10, "s", []string{"a"}
		var j *Journal
		for i := range 12 {
			at, gen = 1-at, gen+1
			if i%3 == 0 {
				j = open(t, d, gen, state, records...)
			} else {
				state, records = fmt.Sprint("c", i), nil
				wantCode(t, "Compact", j.Compact(state), api.OK)
			}
			files[at] = fileOf(gen, state, records...)
			wantLasting(t, d, files[0], files[1])
			if j.Gen() != gen {
				t.Errorf("the generation is %d, not %d", j.Gen(), gen)
			}
			wantCode(t, "Add", j.Add("r"), api.OK)
			wantCode(t, "Sync", j.Sync(), api.OK)
			records = append(slices.Clip(records), "r")
			files[at] += frames("rr")
			wantLasting(t, d, files[0], files[1])
		}
	}
}

func TestGreatestGeneration(t *testing.T) {
	const most = math.MaxInt32
	// One below it is followed by it, behind which there is none.
	d := laid(t, "", fileOf(most-1, "s", "a"))
	j := open(t, d, most, "s", "a")
	first, second := fileOf(most, "s", "a"), fileOf(most-1, "s", "a")
	wantLasting(t, d, first, second)
	for range 2 {
		for _, state := range []string{"", "c", longest, tooLong} {
			wantCode(t, "Compact", j.Compact(state), api.Full)
		}
		wantLasting(t, d, first, second)
		// It goes on.
		wantCode(t, "Add", j.Add("b"), api.OK)
		wantCode(t, "Add", j.Add(tooLong), api.TooLarge)
		wantCode(t, "Sync", j.Sync(), api.OK)
		first += frames("rb")
		wantLasting(t, d, first, second)
		if j.Gen() != most {
			t.Errorf("the generation is %d", j.Gen())
		}
	}
	wantNotOpen(t, d, api.Full)
	wantLasting(t, d, first, second)
}

func TestOpenBehindTheGreatestGeneration(t *testing.T) {
	for _, g := range []int{math.MaxInt32, 1 << 31, 1<<31 + 1, 1<<32 - 2, 1<<32 - 1} {
		for _, files := range [][2]string{
			{fileOf(g, "s", "a"), ""}, {"", fileOf(g, "s", "a")}, {fileOf(g, "s", "a"), fileOf(5, "less")}, {fileOf(5, "less"), fileOf(g, "s", "a")},
			{fileOf(g, "s"), fileOf(g, "s")}, {fileOf(1<<31-1, "s"), fileOf(g, "s")},
		} {
			d := laid(t, files[0], files[1])
			d.Cut(1) // at any change
			for range 2 {
				wantNotOpen(t, d, api.Full)
			}
			if d.Off() {
				t.Error("there was a change")
			}
			d.On()
			wantLasting(t, d, files[0], files[1])
		}
		// If it isn't whole, it isn't told.
		d := laid(t, frames(plainHead(uint32(g), 2), "ss"), fileOf(5, "less"))
		open(t, d, 6, "less")
	}
}

func TestTooLargeOfACompact(t *testing.T) {
	for n, want := range map[int]api.Code{0: api.OK, 1: api.OK, api.MaxRecord - 2: api.OK, api.MaxRecord - 1: api.OK, api.MaxRecord: api.TooLarge, api.MaxRecord + 1: api.TooLarge, 1 << 20: api.TooLarge} {
		state := strings.Repeat("c", n)
		d := disk.New(api.MaxDisk)
		j := open(t, d, 1, "")
		wantCode(t, fmt.Sprintf("Compact of %d bytes", n), j.Compact(state), want)
		wantCode(t, fmt.Sprintf("Add of %d bytes", n), j.Add(state), want)
		if want == api.OK {
			wantFiles(t, d, fileOf(1, ""), fileOf(2, state)+frames("r"+state))
			open(t, d, 3, state, state)
		} else {
			wantFiles(t, d, fileOf(1, ""), "")
			open(t, d, 2, "")
		}
	}
}

// The sizes of files that are laid: 29 bytes of an empty state.
func TestDiskThatIsTooSmall(t *testing.T) {
	for limit := range 100 {
		d := disk.New(limit)
		if limit < 29 {
			wantNotOpen(t, d, api.Full)
			wantFiles(t, d, "", "")
			continue
		}
		j := open(t, d, 1, "")
		if limit < 29+32 {
			wantCode(t, "Compact", j.Compact("abc"), api.Full)
			wantLasting(t, d, fileOf(1, ""), "")
			if j.Gen() != 1 {
				t.Errorf("the generation is %d", j.Gen())
			}
			wantCode(t, "Add", j.Add("a"), api.Nothing)
			continue
		}
		wantCode(t, "Compact", j.Compact("abc"), api.OK)
		if limit < 29+32+9 {
			wantCode(t, "Add", j.Add("ab"), api.Full)
			wantLasting(t, d, fileOf(1, ""), fileOf(2, "abc"))
			wantCode(t, "Sync", j.Sync(), api.Nothing)
			continue
		}
		wantCode(t, "Add", j.Add("ab"), api.OK)
		// Room is made by the Clear, ahead of what is laid.
		if limit < 2*(32+9) {
			wantNotOpen(t, d, api.Full)
			wantFiles(t, d, "", fileOf(2, "abc")+frames("rab"))
			continue
		}
		open(t, d, 3, "abc", "ab")
	}
}

// What is done at a code of each of the three, and what then is told.

func TestCutInALaying(t *testing.T) {
	old, second := fileOf(2, "old", "a"), fileOf(1, "older")
	opened, compacted := fileOf(3, "old", "a"), fileOf(4, "new")
	for _, c := range []struct {
		call   func(d *disk.Disk, j *Journal) api.Code
		before string // what the file has that is laid
		after  string
		kept   string // the other file
	}{
		{openCode, second, opened, old},
		{compactCode, old, compacted, opened},
	} {
		for _, keep := range []int{0, 1, 5, 21, 22, 28, -2, -1, math.MinInt, math.MaxInt} {
			for n := 1; n <= 3; n++ {
				d, j := openedFor(t, c.before == old, old, second)
				d.Cut(n, keep, keep)
				if code := c.call(d, j); code != api.Power || !d.Off() {
					t.Errorf("Cut(%d, %d) is answered by %d", n, keep, code)
				}
				d.On()
				laidAt, want := 1, c.before
				if c.before == old {
					laidAt = 0
				}
				if n > 1 {
					want = c.after[:keptOf(keep, len(c.after))]
				}
				files := [2]string{c.kept, c.kept}
				files[laidAt] = want
				wantLasting(t, d, files[0], files[1])
				if want == c.after && c.before == old {
					open(t, d, 5, "new")
				} else if want == c.after || c.before == old {
					open(t, d, 4, "old", "a")
				} else {
					open(t, d, 3, "old", "a")
				}
				if t.Failed() {
					t.Fatalf("with Cut(%d, %d)", n, keep)
				}
			}
		}
	}
}

func TestBreakInALaying(t *testing.T) {
	old, second := fileOf(2, "old", "a"), fileOf(1, "older")
	opened, compacted := fileOf(3, "old", "a"), fileOf(4, "new")
	for n := 1; n <= 3; n++ {
		d, _ := openedFor(t, false, old, second)
		d.Break(n)
		wantNotOpen(t, d, api.Full)
		wantFiles(t, d, old, []string{second, "", opened}[n-1])
		wantLasts(t, d, len(old), []int{len(second), 0, 0}[n-1])
		d.Break(0)
		open(t, d, []int{3, 3, 4}[n-1], "old", "a")

		d, j := openedFor(t, true, old, second)
		d.Break(n)
		wantCode(t, "Compact", j.Compact("new"), api.Full)
		wantFiles(t, d, []string{old, "", compacted}[n-1], opened)
		wantLasts(t, d, []int{len(old), 0, 0}[n-1], len(opened))
		if j.Gen() != 3 {
			t.Errorf("the generation is %d", j.Gen())
		}
		d.Break(0)
		if n == 3 {
			open(t, d, 5, "new")
		} else {
			open(t, d, 4, "old", "a")
		}
		if t.Failed() {
			t.Fatalf("with Break(%d)", n)
		}
	}
}

// openedFor is a disk with these files, opened already (which lays the second one) or not.
func openedFor(t *testing.T, already bool, first, second string) (*disk.Disk, *Journal) {
	t.Helper()
	d := laid(t, first, second)
	if !already {
		return d, nil
	}
	return d, open(t, d, 3, "old", "a")
}

func openCode(d *disk.Disk, _ *Journal) api.Code {
	_, _, _, err := Open(d)
	return fault.CodeOf(err)
}

func compactCode(_ *disk.Disk, j *Journal) api.Code {
	return fault.CodeOf(j.Compact("new"))
}

// keptOf tells how many bytes a number of keep keeps of so many that don't last.
func keptOf(k, loose int) int {
	if k >= 0 {
		return k % (loose + 1)
	}
	return loose - -(k+1)%(loose+1)
}
