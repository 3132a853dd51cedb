package journal

import (
	"strings"

	"aqueduct/api"
	"aqueduct/varint"
)

const (
	magic         = "AQUEDUCT"
	numberBytes   = 4 // of each number in a head
	headBytes     = len(magic) + 2*numberBytes
	maxGeneration = 1<<31 - 1 // of a file that is laid; one that is met may have a greater one

	stateMark  = "s"
	recordMark = "r"
)

// content is what a whole file has.
type content struct {
	generation int
	state      string
	records    []string
}

// bytes tells the bytes of a file that has this, all frames of which it must have to be whole.
func (c content) bytes() (string, api.Code) {
	if c.generation > maxGeneration {
		return "", api.Full
	}
	// Neither is ever refused: both fit in four bytes.
	generation, _ := varint.Fixed(numberBytes, c.generation)
	n, _ := varint.Fixed(numberBytes, 1+len(c.records))

	bodies := make([]string, 0, 2+len(c.records))
	bodies = append(bodies, magic+generation+n, stateMark+c.state)
	for _, record := range c.records {
		bodies = append(bodies, recordMark+record)
	}
	var all strings.Builder
	for _, body := range bodies {
		frame, code := Frame(body)
		if code != api.OK {
			return "", code
		}
		all.WriteString(frame)
	}
	return all.String(), api.OK
}

// parse tells what a file's bytes have; false, if it isn't whole.
func parse(s string) (content, bool) {
	generation, n, at, ok := head(s)
	if !ok {
		return content{}, false
	}
	state, at, ok := marked(s, at, stateMark)
	if !ok {
		return content{}, false
	}
	var records []string
	for {
		record, behind, ok := marked(s, at, recordMark)
		if !ok {
			break
		}
		records, at = append(records, record), behind
	}
	if 1+len(records) < n {
		return content{}, false
	}
	return content{generation, state, records}, true
}

// head tells the numbers of a file's head, its generation and how many frames it must have, and the place behind it; false, if there is none.
func head(s string) (generation, n, behind int, ok bool) {
	body, behind, code := Unframe(s, 0)
	if code != api.OK || len(body) != headBytes || !strings.HasPrefix(body, magic) {
		return 0, 0, 0, false
	}
	// Neither is ever refused: the head is long enough.
	generation, at, _ := varint.GetFixed(body, len(magic), numberBytes)
	n, _, _ = varint.GetFixed(body, at, numberBytes)
	if generation < 1 || n < 1 {
		return 0, 0, 0, false
	}
	return generation, n, behind, true
}

// marked tells what stands behind the mark in the body of the frame at a place, and the place behind it; false, if there is no frame with that mark.
func marked(s string, at int, mark string) (string, int, bool) {
	body, behind, code := Unframe(s, at)
	if code != api.OK {
		return "", 0, false
	}
	text, ok := strings.CutPrefix(body, mark)
	if !ok {
		return "", 0, false
	}
	return text, behind, true
}
