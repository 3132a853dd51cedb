package journal

import (
	"bytes"
	"fmt"
	"math"
	"math/rand/v2"
	"strings"
	"testing"
	"unsafe"

	"aqueduct/api"
)

// Of P12.1.

func TestSum(t *testing.T) {
	for s, want := range map[string]int{
		"": 0xffff, "123456789": 0x29b1, "A": 0xb915, "\x00": 0xe1f0, "\xff": 0xff00, "\xff\xff": 0,
	} {
		if got := Sum(s); got != want {
			t.Errorf("Sum(%q) = %04x, not %04x", s, got, want)
		}
	}
}

func TestSumAsThePlainReckoning(t *testing.T) {
	want := func(s string) {
		t.Helper()
		if got := Sum(s); got != plainSum(s) {
			t.Fatalf("Sum of %d bytes, %.20q, is %04x, not %04x", len(s), s, got, plainSum(s))
		}
	}
	for a := range 256 {
		want(string([]byte{byte(a)}))
		for b := range 256 {
			want(string([]byte{byte(a), byte(b)}))
		}
	}
	for n := range 600 {
		want(strings.Repeat("\x00", n))
		want(strings.Repeat("\xff", n))
		want(madeBytes(n))
	}
	for _, n := range []int{65535, 65536, api.MaxRecord, api.MaxRecord + 1, 1 << 20} {
		want(madeBytes(n))
	}
}

// madeBytes are so many, all kinds of them.
func madeBytes(n int) string {
	r := rand.NewChaCha8([32]byte{12, byte(n), byte(n >> 8), byte(n >> 16)})
	out := make([]byte, n)
	r.Read(out)
	return string(out)
}

func TestFrame(t *testing.T) {
	for body, want := range map[string]string{
		"123456789": "\x00\x00\x00\x09\x29\xb1123456789",
		"A":         "\x00\x00\x00\x01\xb9\x15A",
		"\x00":      "\x00\x00\x00\x01\xe1\xf0\x00",
		"\xff\xff":  "\x00\x00\x00\x02\x00\x00\xff\xff",
	} {
		if got, code := Frame(body); got != want || code != api.OK {
			t.Errorf("Frame(%q) = %q, %d, not %q", body, got, code, want)
		}
	}
}

func TestFrameOfEachLength(t *testing.T) {
	for _, n := range []int{1, 2, 3, 15, 16, 17, 255, 256, 257, 65535, 65536, 65537, api.MaxRecord - 1, api.MaxRecord} {
		body := madeBytes(n)
		got, code := Frame(body)
		if got != plainFrame(body) || code != api.OK {
			t.Errorf("of %d bytes: %.20q, %d, not %.20q", n, got, code, plainFrame(body))
		}
		wantUnframed(t, got, 0, body, len(got))
	}
}

func TestNoFrame(t *testing.T) {
	for n, want := range map[int]api.Code{0: api.Malformed, api.MaxRecord + 1: api.TooLarge, api.MaxRecord + 2: api.TooLarge, 2 * api.MaxRecord: api.TooLarge, 1 << 24: api.TooLarge} {
		if s, code := Frame(strings.Repeat("a", n)); s != "" || code != want {
			t.Errorf("Frame of %d bytes = %.20q, %d, not %d", n, s, code, want)
		}
	}
}

func wantUnframed(t *testing.T, s string, at int, body string, behind int) {
	t.Helper()
	if got, next, code := Unframe(s, at); got != body || next != behind || code != api.OK {
		t.Errorf("Unframe of %d bytes, %.40q, at %d = %.20q, %d, %d, not %.20q, %d", len(s), s, at, got, next, code, body, behind)
	}
}

// wantNoFrame holds that there is none, that this code tells why, and that nothing else is told beside it.
func wantNoFrame(t *testing.T, s string, at int, want api.Code) {
	t.Helper()
	if got, next, code := Unframe(s, at); got != "" || next != 0 || code != want {
		t.Errorf("Unframe of %d bytes, %.40q, at %d = %.20q, %d, %d, not %d", len(s), s, at, got, next, code, want)
	}
}

func TestUnframeOneBehindTheOther(t *testing.T) {
	bodies := []string{"a", "bcd", "\x00", madeBytes(300), "r", "s"}
	s := ""
	for _, body := range bodies {
		s += plainFrame(body)
	}
	at := 0
	for _, body := range bodies {
		wantUnframed(t, s, at, body, at+6+len(body))
		at += 6 + len(body)
	}
	wantNoFrame(t, s, at, api.Nothing)
}

func TestUnframeAtEachPlace(t *testing.T) {
	for _, s := range []string{"", "a", plainFrame("a"), plainFrame("a") + plainFrame("bcd") + plainFrame(madeBytes(300)), plainFrame("a") + "\x00\x00\x00\x02", plainFrame(plainFrame("in")) + "x"} {
		for at := range len(s) + 1 {
			body, behind, want := plainUnframe(s, at)
			if want == api.OK {
				wantUnframed(t, s, at, body, behind)
			} else {
				wantNoFrame(t, s, at, want)
			}
		}
		wantNoFrame(t, s, len(s), api.Nothing)
		for _, at := range []int{-1, -2, -6, math.MinInt, math.MinInt + 1, len(s) + 1, len(s) + 2, len(s) + 6, 1 << 32, math.MaxInt - 1, math.MaxInt} {
			wantNoFrame(t, s, at, api.Unspecified)
		}
	}
}

// At each place of the text, so that what stands ahead makes no difference.
func TestUnframeOfABeginning(t *testing.T) {
	for _, ahead := range []string{"", "x", "\x00\x00\x00\x00\x00\x00", plainFrame("ahead")} {
		for _, body := range []string{"a", "bcd", madeBytes(300), madeBytes(api.MaxRecord)} {
			s := ahead + plainFrame(body)
			for n := len(ahead); n < min(len(s), len(ahead)+20); n++ {
				wantNoFrame(t, s[:n], len(ahead), api.Nothing)
			}
			for n := max(len(ahead), len(s)-20); n < len(s); n++ {
				wantNoFrame(t, s[:n], len(ahead), api.Nothing)
			}
			wantUnframed(t, s, len(ahead), body, len(s))
		}
	}
}

// The length is told as soon as its four bytes stand there, with any bytes behind them.
func TestUnframeOfLengths(t *testing.T) {
	for length, good := range map[string]bool{
		"\x00\x00\x00\x00": false, "\x00\x00\x00\x01": true, "\x00\x00\x00\xff": true, "\x00\x01\x00\x00": true, "\x00\x01\xff\xff": true,
		"\x00\x02\x00\x00": true, "\x00\x02\x00\x01": false, "\x00\x03\x00\x00": false, "\x00\xff\xff\xff": false,
		"\x01\x00\x00\x01": false, "\x7f\xff\xff\xff": false, "\x80\x00\x00\x00": false, "\x80\x00\x00\x01": false, "\xff\xff\xff\xff": false,
	} {
		want := api.Malformed
		if good {
			want = api.Nothing
		}
		for _, ahead := range []string{"", "xyz"} {
			for n := range 4 {
				wantNoFrame(t, ahead+length[:n], len(ahead), api.Nothing)
			}
			for _, behind := range []string{"", "\x00", "\xff\xff", "\xff"} {
				wantNoFrame(t, ahead+length+behind, len(ahead), want)
			}
		}
		if !good {
			wantNoFrame(t, length+"\xff\xff", 0, api.Malformed) // of the empty text that would be the check sum
			wantNoFrame(t, length+strings.Repeat("\x00", 1000), 0, api.Malformed)
		}
	}
	// A frame that would be good, were its body not too long.
	long := madeBytes(api.MaxRecord + 1)
	wantNoFrame(t, plainFrame(long), 0, api.Malformed)
}

func TestUnframeWithABitTurned(t *testing.T) {
	for _, body := range []string{"a", "\x00", "bcd", madeBytes(40)} {
		good := plainFrame(body)
		for at := 4; at < len(good); at++ {
			for bit := range 8 {
				b := []byte(good + plainFrame("behind"))
				b[at] ^= 1 << bit
				wantNoFrame(t, string(b), 0, api.Malformed)
			}
		}
	}
}

// With another check sum, too: what is missing may turn it right.
func TestNothingIsToldAheadOfTheCheckSum(t *testing.T) {
	bad := []byte(plainFrame("abc"))
	bad[4] ^= 1
	for n := range len(bad) {
		wantNoFrame(t, string(bad[:n]), 0, api.Nothing)
	}
	wantNoFrame(t, string(bad), 0, api.Malformed)
}

func TestUnframeOfMadeTexts(t *testing.T) {
	m := maker{rand.New(rand.NewPCG(12, 3))}
	seen := map[api.Code]int{}
	for range 20000 {
		b := []byte(m.text())
		for range m.IntN(3) {
			b = append(b, plainFrame("r"+m.text())...)
		}
		for range m.IntN(3) {
			b = append(b, "\x00\x00\x00\x01\x02\xff"[m.IntN(6)])
		}
		if len(b) > 0 && m.IntN(2) == 0 {
			b[m.IntN(len(b))] ^= 1 << m.IntN(8)
		}
		s := string(b)
		for at := -1; at <= len(s)+1; at++ {
			body, behind, want := plainUnframe(s, at)
			got, next, code := Unframe(s, at)
			if got != body || next != behind || code != want {
				t.Fatalf("Unframe(%q, %d) = %q, %d, %d, not %q, %d, %d", s, at, got, next, code, body, behind, want)
			}
			seen[want]++
		}
	}
	for _, code := range []api.Code{api.OK, api.Unspecified, api.Nothing, api.Malformed} {
		if seen[code] < 1000 {
			t.Errorf("%d: only %d", code, seen[code])
		}
	}
}

// Of rule 4: what is answered is new memory.
func TestWhatIsUnframedIsNewMemory(t *testing.T) {
	memory := []byte(plainFrame("abc"))
	body, _, _ := Unframe(unsafe.String(&memory[0], len(memory)), 0)
	clear(memory)
	if body != "abc" {
		t.Errorf("what was told is now %q", body)
	}
	memory = bytes.Repeat([]byte("a"), 5)
	frame, _ := Frame(unsafe.String(&memory[0], len(memory)))
	clear(memory)
	if frame != plainFrame("aaaaa") {
		t.Errorf("what was told is now %s", fmt.Sprintf("%q", frame))
	}
}
