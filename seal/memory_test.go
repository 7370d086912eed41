package seal_test

import (
	"bytes"
	"slices"
	"sync"
	"testing"

	"pavane/api"
	"pavane/seal"
)

// scribble writes over all that a slice holds, its spare capacity too.
func scribble(b []byte) {
	b = b[:cap(b)]
	for i := range b {
		b[i] = ^b[i]
	}
}

// spare is a copy of b with room behind it, which is filled; the whole of it, and the part in front.
func spare(b []byte) (whole, front []byte) {
	whole = append(slices.Clone(b), many(40, 0x55)...)
	return whole, whole[:len(b)]
}

// inputs are bytes for each function: payloads, frames, and bytes that are no frames.
func inputs() [][]byte {
	turned := frames(anyRows(5)...)
	turned[len(turned)-1] ^= 1
	return [][]byte{nil, []byte("pavane"), anyBytes(1000), frame(nil), frame(anyBytes(200)), frames(anyRows(9)...),
		frames(anyRows(3)...)[:20], turned, many(20, 128), many(20, 255), length(api.MaxFrame + 1)}
}

// P2.4: no function changes what it is given, nor what lies in the spare capacity behind it.
func TestArgumentsAreLeft(t *testing.T) {
	for i, in := range inputs() {
		whole, b := spare(in)
		before := slices.Clone(whole)
		seal.Sum(b, b[:len(b)/2])
		seal.Close(b)
		seal.Open(b)
		seal.Rows(b)
		if !bytes.Equal(whole, before) {
			t.Errorf("input %d is changed", i)
		}
	}
	parts := [][]byte{[]byte("a"), []byte("b"), []byte("c")}
	seal.Sum(parts[:2]...)
	if !slices.EqualFunc(parts, [][]byte{[]byte("a"), []byte("b"), []byte("c")}, bytes.Equal) {
		t.Error("Sum changes the list of its parts")
	}
}

// P2.4: what lies in the spare capacity of the bytes is no part of them.
func TestSpareIsNotRead(t *testing.T) {
	b := frame([]byte("pavane"))
	checkOpen(t, b[:len(b)-1], nil, 0, api.ErrEnd)
	checkOpen(t, b[:0], nil, 0, api.ErrEnd)
	rows := [][]byte{[]byte("one"), []byte("two")}
	all := frames(rows...)
	checkRows(t, all[:len(all)-1], rows[:1], len(all)/2, api.ErrEnd)
	checkRows(t, all[:len(all)/2], rows[:1], len(all)/2, api.OK)
}

// P2.4: a frame shares memory with neither its payload nor another frame.
func TestFramesAreFresh(t *testing.T) {
	for _, n := range []int{0, 1, 6, 40, 127, 128, 1000, 70000} {
		whole, p := spare(anyBytes(n))
		before := slices.Clone(whole)
		first, _ := seal.Close(p)
		second, _ := seal.Close(p)
		scribble(first)
		if !bytes.Equal(second, frame(anyBytes(n))) || !bytes.Equal(whole, before) {
			t.Errorf("%d bytes: another frame, or the payload, changes as a frame is written over", n)
		}
		scribble(p)
		if !bytes.Equal(second, frame(anyBytes(n))) {
			t.Errorf("%d bytes: a frame changes with its payload", n)
		}
	}
}

// P2.4: a payload shares memory with neither its frame nor another payload.
func TestPayloadsAreFresh(t *testing.T) {
	for _, n := range []int{0, 1, 6, 40, 127, 128, 1000, 70000} {
		whole, b := spare(frame(anyBytes(n)))
		before := slices.Clone(whole)
		first, _, _ := seal.Open(b)
		second, _, _ := seal.Open(b)
		scribble(first)
		if !bytes.Equal(second, anyBytes(n)) || !bytes.Equal(whole, before) {
			t.Errorf("%d bytes: another payload, or the frame, changes as a payload is written over", n)
		}
		scribble(b)
		if !bytes.Equal(second, anyBytes(n)) {
			t.Errorf("%d bytes: a payload changes with its frame", n)
		}
	}
}

// P2.4: rows share memory with neither the frames nor each other, also beside an error.
func TestRowsAreFresh(t *testing.T) {
	for _, tail := range [][]byte{nil, {5}, {128}, many(9, 0)} {
		want := anyRows(30)
		whole, b := spare(append(frames(want...), tail...))
		before := slices.Clone(whole)
		rows, _, _ := seal.Rows(b)
		again, _, _ := seal.Rows(b)
		for i := range rows {
			scribble(rows[i])
			if !slices.EqualFunc(rows[i+1:], want[i+1:], bytes.Equal) {
				t.Fatalf("a row behind row %d changes as that one is written over", i)
			}
		}
		for i := len(again) - 1; i >= 0; i-- {
			if !bytes.Equal(again[i], want[i]) {
				t.Fatalf("row %d changes as others are written over", i)
			}
			scribble(again[i])
		}
		if !bytes.Equal(whole, before) {
			t.Error("the frames change as the rows are written over")
		}
		rows, _, _ = seal.Rows(b)
		scribble(b)
		if !slices.EqualFunc(rows, want, bytes.Equal) {
			t.Error("the rows change with the frames")
		}
	}
}

// W2: the same call has the same result, whatever was called before.
func TestSameAgain(t *testing.T) {
	for i, in := range inputs() {
		sum := seal.Sum(in)
		closed, code := seal.Close(in)
		for _, other := range inputs() {
			seal.Rows(other)
			seal.Close(other)
		}
		again, codeAgain := seal.Close(in)
		if sum != seal.Sum(in) || !bytes.Equal(closed, again) || code != codeAgain {
			t.Errorf("input %d: another result the second time", i)
		}
	}
}

// W2: calls side by side do not disturb each other.
func TestSideBySide(t *testing.T) {
	var all sync.WaitGroup
	for worker := range 8 {
		all.Go(func() {
			rows := anyRows(20 + worker)
			b := frames(rows...)
			for range 200 {
				if got, used, code := seal.Rows(b); code != api.OK || used != len(b) || !slices.EqualFunc(got, rows, bytes.Equal) {
					t.Errorf("worker %d: other rows than its own", worker)
					return
				}
				if one, code := seal.Close(rows[worker]); code != api.OK || !bytes.Equal(one, frame(rows[worker])) {
					t.Errorf("worker %d: another frame than its own", worker)
					return
				}
			}
		})
	}
	all.Wait()
}
