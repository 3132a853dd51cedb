package journal

import (
	"fmt"
	"math"
	"math/rand/v2"
	"slices"
	"strings"
	"testing"

	"aqueduct/api"
	"aqueduct/disk"
	"aqueduct/fault"
)

// Of P12.5.

// watched is a journal on a disk, and what the chapter says that a loss of power leaves of it.
type watched struct {
	t *testing.T
	d *disk.Disk
	j *Journal

	state   string   // as Sync, Compact or Open last told nil
	records []string // likewise
	added   []string // since
	compact []string // the state of the Compact that was told a code, or none

	serial int
	calls  []string
	seen   map[string]int
}

func newWatched(t *testing.T, seen map[string]int) *watched {
	w := &watched{t: t, d: disk.New(enough), seen: seen}
	w.open()
	return w
}

// call makes one that is an Add, a Sync, a Compact or an Open, by its letter, and tells its code.
func (w *watched) call(kind byte) api.Code {
	w.serial++
	w.calls = append(w.calls, string(kind))
	switch kind {
	case 'a':
		return w.add()
	case 's':
		return w.sync()
	case 'c':
		return w.compactTo(fmt.Sprint("state ", w.serial))
	default:
		return w.open()
	}
}

func (w *watched) add() api.Code {
	body := ""
	if w.serial%3 > 0 {
		body = fmt.Sprint("record ", w.serial)
	}
	// One that is told a code may have come to stand there, too.
	w.added = append(w.added, body)
	return fault.CodeOf(w.j.Add(body))
}

func (w *watched) sync() api.Code {
	code := fault.CodeOf(w.j.Sync())
	if code == api.OK {
		w.records, w.added = slices.Concat(w.records, w.added), nil
	}
	return code
}

func (w *watched) compactTo(state string) api.Code {
	code := fault.CodeOf(w.j.Compact(state))
	if code == api.OK {
		w.state, w.records, w.added = state, nil, nil
	} else {
		w.compact = []string{state}
	}
	return code
}

// open opens, with no loss of power since the call before: it tells all.
func (w *watched) open() api.Code {
	j, state, records, err := Open(w.d)
	if err != nil {
		return fault.CodeOf(err)
	}
	if want := slices.Concat(w.records, w.added); state != w.state || !slices.Equal(records, want) {
		w.t.Fatalf("behind %q Open tells %q, %q, not %q, %q", w.calls, state, records, w.state, want)
	}
	w.j, w.records, w.added = j, records, nil
	return api.OK
}

// reopen opens behind a loss of power.
func (w *watched) reopen() {
	w.calls = append(w.calls, "and again")
	j, state, records, err := Open(w.d)
	if err != nil || !w.allows(state, records) {
		w.t.Fatalf("behind %q Open tells %q, %q, %v; there were %q, %q, then came %q, or %q", w.calls, state, records, err, w.state, w.records, w.added, w.compact)
	}
	w.tell(state, len(records)-len(w.records))
	w.j, w.state, w.records, w.added, w.compact = j, state, records, nil, nil
}

// allows tells whether these may be told behind a loss of power.
func (w *watched) allows(state string, records []string) bool {
	if len(w.compact) > 0 && state == w.compact[0] && len(records) == 0 {
		return true
	}
	all := slices.Concat(w.records, w.added)
	return state == w.state && len(records) >= len(w.records) && len(records) <= len(all) && slices.Equal(records, all[:len(records)])
}

// tell counts what was left of what came since.
func (w *watched) tell(state string, more int) {
	switch {
	case state != w.state:
		w.seen["a new state alone"]++
	case len(w.compact) > 0:
		w.seen["the old state"]++
	case len(w.added) == 0:
		w.seen["nothing was added"]++
	case more == 0:
		w.seen["none of what was added"]++
	case more < len(w.added):
		w.seen["a beginning of what was added"]++
	default:
		w.seen["all that was added"]++
	}
}

// lose makes the calls of a row up to a loss of power at the n-th change, and tells the row that is left behind it.
func (w *watched) lose(row string, n int, keep ...int) string {
	w.calls = append(w.calls, fmt.Sprintf("Cut(%d, %d)", n, keep))
	w.d.Cut(n, keep...)
	for i := range len(row) {
		code := w.call(row[i])
		if code == api.OK {
			continue
		}
		if code != api.Power || !w.d.Off() {
			w.t.Fatalf("behind %q the code is %d", w.calls, code)
		}
		w.d.On()
		w.reopen()
		return row[i+1:]
	}
	// The power fails behind the row, then.
	w.d.Crash(keep...)
	w.reopen()
	return ""
}

// rows are all of so many calls.
func rows(length int) []string {
	out := []string{""}
	for range length {
		var longer []string
		for _, row := range out {
			for _, kind := range "asco" {
				longer = append(longer, row+string(kind))
			}
		}
		out = longer
	}
	return out
}

// keeps are all kinds of numbers keep for a file: those from both ends on, and the extremes.
func keeps() []int {
	out := []int{math.MinInt, math.MinInt + 1, math.MaxInt - 1, math.MaxInt}
	for k := -60; k <= 60; k++ {
		out = append(out, k)
	}
	return out
}

func wantSeen(t *testing.T, seen map[string]int) {
	t.Helper()
	for _, kind := range []string{"a new state alone", "the old state", "nothing was added", "none of what was added", "a beginning of what was added", "all that was added"} {
		if seen[kind] < 50 {
			t.Errorf("%s: only %d", kind, seen[kind])
		}
	}
}

// At each change of all rows of three calls, with all kinds of numbers; what is left of the row goes on on the same disk, where the power fails once more.
func TestLossOfPowerAtEachChange(t *testing.T) {
	seen, keeps := map[string]int{}, keeps()
	for _, row := range rows(3) {
		for n := 1; n <= 10; n++ {
			for i, keep := range keeps {
				other := keeps[(7*i+n)%len(keeps)]
				w := newWatched(t, seen)
				rest := w.lose(row, n, keep, other)
				w.lose(rest+"aac", 1+i%6, other, keep)
				w.call('o')
			}
		}
	}
	wantSeen(t, seen)
}

// With each pair of numbers, in rows that have something in both files.
func TestLossOfPowerWithEachPairOfNumbers(t *testing.T) {
	seen := map[string]int{}
	for _, row := range []string{"aaa", "asaa", "caac", "casac", "aao", "casaoa"} {
		for n := 1; n <= 9; n++ {
			for first := 0; first <= 64; first += 2 {
				for second := 1; second <= 64; second += 3 {
					w := newWatched(t, seen)
					w.lose(row, n, first, second)
					w.call('o')
				}
			}
		}
	}
	wantSeen(t, seen)
}

// Behind each call, with the power on till then.
func TestCrashBehindEachCall(t *testing.T) {
	seen := map[string]int{}
	for _, row := range rows(4) {
		for _, keep := range keeps() {
			w := newWatched(t, seen)
			for i := range len(row) {
				if code := w.call(row[i]); code != api.OK {
					t.Fatalf("%q: %d", w.calls, code)
				}
				if i%2 == 1 {
					w.d.Crash(keep, -keep)
					w.reopen()
				}
			}
		}
	}
	// No Compact is told a code here.
	for _, kind := range []string{"nothing was added", "none of what was added", "a beginning of what was added", "all that was added"} {
		if seen[kind] < 50 {
			t.Errorf("%s: only %d", kind, seen[kind])
		}
	}
}

// A disk that is full from some change on, and then loses its power.
func TestLossOfPowerOfAFullDisk(t *testing.T) {
	seen := map[string]int{}
	for _, row := range rows(4) {
		for n := 1; n <= 13; n++ {
			for _, keep := range []int{0, 1, 8, 22, 23, 40, -1, -2, -20, math.MinInt} {
				w := newWatched(t, seen)
				w.d.Break(n)
				for i := range len(row) {
					if code := w.call(row[i]); code == api.Full {
						break
					} else if code != api.OK {
						t.Fatalf("%q: %d", w.calls, code)
					}
				}
				w.d.Crash(keep, keep/2)
				w.reopen()
				w.call('o')
			}
		}
	}
	wantSeen(t, seen)
}

// Long rows on one disk, where the power fails again and again, at calls and between them, also while what was lost is opened.
func TestLossOfPowerAgainAndAgain(t *testing.T) {
	r := rand.New(rand.NewPCG(12, 4))
	keep := func() int { return r.IntN(400) - 200 }
	seen := map[string]int{}
	for range 500 {
		w := newWatched(t, seen)
		for range 40 {
			var row strings.Builder
			for range 1 + r.IntN(8) {
				row.WriteByte("aaaasscco"[r.IntN(9)])
			}
			w.lose(row.String(), 1+r.IntN(12), keep(), keep())
			for range r.IntN(3) {
				w.loseInOpen(1+r.IntN(4), keep(), keep())
			}
		}
	}
	wantSeen(t, seen)
}

// loseInOpen opens with a loss of power at the n-th change, and then with none.
func (w *watched) loseInOpen(n int, keep ...int) {
	w.calls = append(w.calls, fmt.Sprintf("Cut(%d, %d)", n, keep))
	w.d.Cut(n, keep...)
	code := w.open()
	if want := n <= 3; want != (code == api.Power) || want != w.d.Off() {
		w.t.Fatalf("behind %q Open is answered by %d", w.calls, code)
	}
	w.d.On()
	w.reopen()
}

// The longest frames, too.
func TestLossOfPowerInLongRecords(t *testing.T) {
	const frame = 6 + api.MaxRecord
	for keep, want := range map[int]int{0: 1, 1: 1, frame - 1: 1, frame: 2, frame + 1: 2, 2*frame - 1: 2, 2 * frame: 3, 2*frame + 1: 1, -1: 3, -2: 2, -frame - 1: 2, -frame - 2: 1} {
		d := disk.New(api.MaxDisk)
		j := open(t, d, 1, "")
		all := []string{"first", longest, strings.ToUpper(longest)}
		wantCode(t, "Add", j.Add(all[0]), api.OK)
		wantCode(t, "Sync", j.Sync(), api.OK)
		wantCode(t, "Add", j.Add(all[1]), api.OK)
		d.Cut(1, keep)
		wantCode(t, "Add", j.Add(all[2]), api.Power)
		d.On()
		open(t, d, 2, "", all[:want]...)
	}
}

// Behind a loss of power that left half a record others come to stand, which no half one hides.
func TestRecordsBehindHalfAOne(t *testing.T) {
	for keep := range 20 {
		d := disk.New(enough)
		j := open(t, d, 1, "")
		wantCode(t, "Add", j.Add("a"), api.OK)
		wantCode(t, "Sync", j.Sync(), api.OK)
		wantCode(t, "Add", j.Add("record that is lost"), api.OK)
		d.Crash(keep)
		j = open(t, d, 2, "", "a")
		wantCode(t, "Add", j.Add("b"), api.OK)
		wantCode(t, "Sync", j.Sync(), api.OK)
		d.Crash()
		open(t, d, 3, "", "a", "b")
	}
}
