package seal_test

import (
	"bytes"
	"slices"
	"testing"

	"pavane/api"
	"pavane/seal"
)

func checkRows(t *testing.T, b []byte, rows [][]byte, used int, code api.Errno) {
	t.Helper()
	gotRows, gotUsed, gotCode := seal.Rows(b)
	if !slices.EqualFunc(gotRows, rows, bytes.Equal) || gotUsed != used || gotCode != code {
		t.Errorf("Rows of %s: %d rows, %d, %d; want %d rows, %d, %d", start(b), len(gotRows), gotUsed, gotCode, len(rows), used, code)
	}
}

// frames are the frames of payloads by the reference, one behind the other.
func frames(rows ...[]byte) []byte {
	var b []byte
	for _, p := range rows {
		b = append(b, frame(p)...)
	}
	return b
}

// anyRows are that many payloads of many sizes, the empty one among them.
func anyRows(n int) [][]byte {
	var rows [][]byte
	for i := range n {
		rows = append(rows, anyBytes(i*37%150))
	}
	return rows
}

// P2.3: the document's example.
func TestRowsExample(t *testing.T) {
	rows := [][]byte{[]byte("one"), []byte("another")}
	b := frames(rows...)
	checkRows(t, append(slices.Clone(b), 5), rows, len(b), api.ErrEnd)
}

// P2.3: no bytes are no frames, and all of them.
func TestRowsOfNothing(t *testing.T) {
	checkRows(t, nil, nil, 0, api.OK)
	checkRows(t, []byte{}, nil, 0, api.OK)
}

// P2.3: frames up to the end.
func TestRows(t *testing.T) {
	for n := range 60 {
		rows := anyRows(n)
		checkRows(t, frames(rows...), rows, len(frames(rows...)), api.OK)
	}
	same := [][]byte{[]byte("x"), nil, []byte("x"), nil, nil}
	checkRows(t, frames(same...), same, len(frames(same...)), api.OK)
	long := [][]byte{nil, anyBytes(api.MaxFrame), {7}, anyBytes(api.MaxFrame - 1)}
	checkRows(t, frames(long...), long, len(frames(long...)), api.OK)
	checkRows(t, frames(make([][]byte, 5000)...), make([][]byte, 5000), 25000, api.OK)
}

// P2.3: the error is that of Open for the rest, beside what stands ahead of it.
func TestRowsErrors(t *testing.T) {
	turned := frame([]byte("turned"))
	turned[3] ^= 4
	for _, c := range []struct {
		rest []byte
		code api.Errno
	}{
		{[]byte{0}, api.ErrEnd},
		{[]byte{5}, api.ErrEnd},
		{[]byte{129}, api.ErrEnd},
		{many(4, 0), api.ErrEnd},
		{[]byte{128}, api.ErrForm},
		{[]byte{128, 1, 2, 3, 4, 5, 6, 7}, api.ErrForm},
		{many(12, 255), api.ErrForm},
		{length(api.MaxFrame), api.ErrEnd},
		{length(api.MaxFrame + 1), api.ErrLong},
		{frame(anyBytes(api.MaxFrame + 1)), api.ErrLong},
		{many(5, 0), api.ErrSum},
		{many(20, 0), api.ErrSum},
		{turned, api.ErrSum},
		{append(slices.Clone(turned), frame([]byte("whole"))...), api.ErrSum},
		{append([]byte{128}, frame([]byte("whole"))...), api.ErrForm},
	} {
		for _, n := range []int{0, 1, 2, 7} {
			rows := anyRows(n)
			b := frames(rows...)
			checkRows(t, append(slices.Clone(b), c.rest...), rows, len(b), c.code)
		}
		if _, _, code := seal.Open(c.rest); code != c.code {
			t.Errorf("Open of %s: %d; want %d", start(c.rest), code, c.code)
		}
	}
}
