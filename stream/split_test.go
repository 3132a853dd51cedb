package stream

import (
	"math"
	"strings"
	"testing"

	"aqueduct/api"
)

// Of P6.1.

func TestSplitOfNoBytes(t *testing.T) {
	for _, most := range mosts {
		checkSplit(t, "", most, nil, "", api.OK)
	}
}

func TestSplitOfABeginning(t *testing.T) {
	for _, s := range []string{"\x40\x02", "\x40\x02a", "\x40\x7f" + strings.Repeat("a", 126), "\x40\x80\x01" + strings.Repeat("a", 127), "\x40\xff\xff\xff\x7f", "\x40\x80\x80\x80\x01abc"} {
		checkSplit(t, s, math.MaxInt, nil, s, api.OK)
		checkSplit(t, "\xc0\x00"+s, math.MaxInt, []string{"\xc0\x00"}, s, api.OK)
		checkSplit(t, "\xc0\x00\x40\x02ab"+s, math.MaxInt, []string{"\xc0\x00", "\x40\x02ab"}, s, api.OK)
	}
}

// Without a whole length nothing is known of how many bytes there are, so no most speaks against it.
func TestSplitOfALengthThatIsNotWhole(t *testing.T) {
	for _, half := range halfLengths {
		for _, most := range mosts {
			checkSplit(t, "\x40"+half, most, nil, "\x40"+half, api.OK)
			if most >= 2 {
				checkSplit(t, "\xc0\x00\x40"+half, most, []string{"\xc0\x00"}, "\x40"+half, api.OK)
			}
		}
	}
}

func TestSplitOfOnePacket(t *testing.T) {
	for _, body := range []string{"", "a", "ab", "\x00", "\xc0\x00", "\x80\x80\x80\x80\x80", strings.Repeat("a", 127), strings.Repeat("a", 128), strings.Repeat("\xff", 16383), strings.Repeat("\xff", 16384), strings.Repeat("a", 1<<21-1), strings.Repeat("a", 1<<21)} {
		s := framed(0x30, body)
		checkSplit(t, s, math.MaxInt, []string{s}, "", api.OK)
		checkSplit(t, s, len(s), []string{s}, "", api.OK)
	}
}

// What a packet is layer 5 tells: Split has nothing to say of its first byte.
func TestSplitOfEveryFirstByte(t *testing.T) {
	for b := range 256 {
		s := framed(byte(b), "ab")
		checkSplit(t, s, 4, []string{s}, "", api.OK)
		checkSplit(t, s+s+s[:1], 4, []string{s, s}, s[:1], api.OK)
		checkSplit(t, s, 3, nil, s, api.TooLarge)
		checkSplit(t, string([]byte{byte(b), 0x80, 0}), 9, nil, string([]byte{byte(b), 0x80, 0}), api.Malformed)
	}
}

func TestSplitOfSeveralPackets(t *testing.T) {
	all := ofEachKind(t)
	for n := range len(all) + 1 {
		s := strings.Join(all[:n], "")
		checkSplit(t, s, 1000, all[:n], "", api.OK)
		for cut := 1; n < len(all) && cut < len(all[n]); cut++ {
			checkSplit(t, s+all[n][:cut], 1000, all[:n], all[n][:cut], api.OK)
		}
	}
}

func TestSplitOfALengthThatIsMalformed(t *testing.T) {
	for _, none := range noLengths {
		for _, behind := range []string{"", "\x00", "\x01", "\xc0\x00", "abc"} {
			s := "\x30" + none + behind
			for _, most := range mosts { // told ahead of TooLarge
				checkSplit(t, s, most, nil, s, api.Malformed)
			}
			checkSplit(t, "\xc0\x00"+s, 2, []string{"\xc0\x00"}, s, api.Malformed)
			checkSplit(t, "\xc0\x00\x40\x02ab"+s, 4, []string{"\xc0\x00", "\x40\x02ab"}, s, api.Malformed)
		}
	}
}

func TestSplitOfMoreBytesThanMost(t *testing.T) {
	for _, length := range []int{0, 1, 2, 126, 127, 128, 129, 16383, 16384, 1<<21 - 1, 1 << 21} {
		s := framed(0x30, strings.Repeat("a", length))
		head := len(s) - length
		for _, most := range []int{len(s) - 1, len(s) - 2, 1, 0, -1, math.MinInt} {
			if most >= len(s) {
				continue
			}
			// Also where not all of its bytes are there, or more than these.
			for _, there := range []string{s, s[:head], s[:head+length/2], s[:max(head, len(s)-1)], s + "\xc0\x00", s + "\xc0\x80\x00"} {
				checkSplit(t, there, most, nil, there, api.TooLarge)
			}
		}
		for _, most := range []int{len(s), len(s) + 1, math.MaxInt} {
			checkSplit(t, s, most, []string{s}, "", api.OK)
			if length > 0 {
				checkSplit(t, s[:head], most, nil, s[:head], api.OK)
				checkSplit(t, s[:len(s)-1], most, nil, s[:len(s)-1], api.OK)
			}
		}
	}
}

// The bytes of a packet are all of them: its first, those of the length, and those behind it.
func TestSplitOfTheGreatestLength(t *testing.T) {
	s := "\x30\xff\xff\xff\x7f"
	for _, there := range []string{s, s + "a", s + "\xc0\x00"} {
		for _, most := range []int{api.MaxVar + 5, api.MaxVar + 6, math.MaxInt} {
			checkSplit(t, there, most, nil, there, api.OK)
		}
		for _, most := range []int{api.MaxVar + 4, api.MaxVar, api.MaxPacket, 0, -1, math.MinInt} {
			checkSplit(t, there, most, nil, there, api.TooLarge)
			if most >= 2 {
				checkSplit(t, "\xc0\x00"+there, most, []string{"\xc0\x00"}, there, api.TooLarge)
			}
		}
	}
}

func TestSplitOfMoreBytesThanMostBehindOthers(t *testing.T) {
	small, great := "\x40\x02ab", "\x40\x03abc"
	for n := range 4 {
		ahead := strings.Repeat(small, n)
		var want []string
		for range n {
			want = append(want, small)
		}
		for _, left := range []string{great, great[:2], great[:4], great + small, great + great} {
			checkSplit(t, ahead+left, 4, want, left, api.TooLarge)
		}
		checkSplit(t, ahead+great, 5, append(want, great), "", api.OK)
	}
}

func TestSplitOfAMostBelowAllPackets(t *testing.T) {
	for _, most := range mosts {
		if most >= 2 {
			continue
		}
		checkSplit(t, "\xc0", most, nil, "\xc0", api.OK)
		checkSplit(t, "\xc0\x00", most, nil, "\xc0\x00", api.TooLarge)
		checkSplit(t, "\xc0\x00\xc0\x00", most, nil, "\xc0\x00\xc0\x00", api.TooLarge)
		checkSplit(t, "\xc0\x05", most, nil, "\xc0\x05", api.TooLarge)
		checkSplit(t, "\xc0\x80\x00", most, nil, "\xc0\x80\x00", api.Malformed)
	}
}

func TestSplitOfAllShortBytes(t *testing.T) {
	bytes := "\x00\x01\x02\x7f\x80\xff"
	var all func(s string)
	all = func(s string) {
		for _, most := range []int{-1, 0, 1, 2, 3, 4, 5, 6, 200} {
			checkPlainSplit(t, s, most)
		}
		for i := 0; i < len(bytes) && len(s) < 6; i++ {
			all(s + bytes[i:i+1])
		}
	}
	all("")
	for a := range 256 {
		for b := range 256 {
			s := string([]byte{0xc0, byte(a), byte(b)})
			for _, most := range []int{2, 3, 130, math.MaxInt} {
				checkPlainSplit(t, s, most)
			}
		}
	}
}

func TestSplitOfChance(t *testing.T) {
	m, good := newMaker(1), ofEachKind(t)
	met := map[api.Code]int{}
	for range 20000 {
		met[checkPlainSplit(t, m.stream(good, 6), pick(m, 5, 20, 100, 200, 500, m.IntN(200)))]++
	}
	for _, code := range []api.Code{api.OK, api.Malformed, api.TooLarge} {
		if met[code] < 300 {
			t.Errorf("the code %d was met %d times", code, met[code])
		}
	}
}

func FuzzSplit(f *testing.F) {
	for _, s := range ofEachKind(f) {
		f.Add(s, 100)
	}
	for _, none := range noLengths {
		f.Add("\xc0\x00\x30"+none, 2)
	}
	f.Fuzz(func(t *testing.T, s string, most int) {
		checkPlainSplit(t, s, most)
	})
}
