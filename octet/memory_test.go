package octet_test

import (
	"bytes"
	"slices"
	"sync"
	"testing"

	"pavane/api"
	"pavane/octet"
)

// scribble writes over all that a slice holds, its spare capacity too.
func scribble[E any](s []E, with E) {
	s = s[:cap(s)]
	for i := range s {
		s[i] = with
	}
}

// spare is a copy of s with room behind it, which is filled; the whole of it, and the part in front.
func spare[E any](s []E, with E) (whole, front []E) {
	whole = slices.Clone(s)
	for i := 0; i < 40; i++ {
		whole = append(whole, with)
	}
	return whole, whole[:len(s)]
}

// encodings are all that the package encodes, each time anew.
func encodings(t *testing.T) [][]byte {
	t.Helper()
	must := func(b []byte, code api.Errno) []byte {
		if code != api.OK {
			t.Fatalf("an encoding fails: %d", code)
		}
		return b
	}
	return [][]byte{
		must(octet.Uint(0)), must(octet.Uint(5)), must(octet.Uint(300)), must(octet.Uint(api.MaxInt)),
		octet.Int(0), octet.Int(-3), octet.Int(api.MinInt),
		must(octet.Text("")), must(octet.Text("pavane")), must(octet.Text(anyText(1000))),
		must(octet.Ints()), must(octet.Ints(1, -1)), must(octet.Ints(anyRow(200)...)),
	}
}

// P1.5: the results of encoding share memory with no other, earlier or later.
func TestEncodingsAreFresh(t *testing.T) {
	want := encodings(t)
	kept := make([][]byte, len(want))
	for i, b := range want {
		kept[i] = slices.Clone(b)
	}
	for i, b := range encodings(t) {
		scribble(b, 0xAA)
		if !bytes.Equal(want[i], kept[i]) {
			t.Errorf("encoding %d changes as another is written over", i)
		}
	}
	for i, b := range encodings(t) {
		if !bytes.Equal(b, kept[i]) {
			t.Errorf("encoding %d is another after the first was written over: %v; want %v", i, b, kept[i])
		}
	}
}

// P1.5: Ints leaves the integers and what lies behind them, and keeps none of them.
func TestIntsLeavesArguments(t *testing.T) {
	for _, n := range []int{0, 1, 5, 300, api.MaxInts} {
		whole, l := spare(anyRow(n), 77)
		before := slices.Clone(whole)
		b, _ := octet.Ints(l...)
		if !slices.Equal(whole, before) {
			t.Errorf("Ints of %d changes its argument", n)
		}
		kept := slices.Clone(b)
		scribble(l, 1)
		if !bytes.Equal(b, kept) {
			t.Errorf("Ints of %d: the result changes with the argument", n)
		}
	}
}

// P1.5: the Take functions leave the bytes and what lies behind them, also beside an error.
func TestTakeLeavesArguments(t *testing.T) {
	inputs := encodings(t)
	for _, b := range encodings(t) {
		inputs = append(inputs, b[:len(b)-1])
	}
	inputs = append(inputs, []byte{128, 1}, []byte{2, 128, 0}, many(20, 255))
	for i, in := range inputs {
		whole, b := spare(in, 0x55)
		before := slices.Clone(whole)
		octet.TakeUint(b)
		octet.TakeInt(b)
		octet.TakeText(b)
		octet.TakeInts(b)
		if !bytes.Equal(whole, before) {
			t.Errorf("input %d is changed", i)
		}
	}
}

// P1.5: what lies in the spare capacity of the bytes is no part of them.
func TestTakeStopsAtTheEnd(t *testing.T) {
	whole := []byte{2, 97, 98, 130, 44}
	checkTakeText(t, whole[:2], "", 0, api.ErrEnd)
	checkTakeInts(t, whole[:2], nil, 0, api.ErrEnd)
	checkTakeUint(t, whole[3:4], 0, 0, api.ErrEnd)
	checkTakeInt(t, whole[3:4], 0, 0, api.ErrEnd)
	checkTakeUint(t, whole[:0], 0, 0, api.ErrEnd)
}

// P1.5: a text that was taken stays as it is when the bytes change.
func TestTakeTextIsFresh(t *testing.T) {
	for _, n := range []int{1, 6, 40, 1000, api.MaxText} {
		b := textBytes(anyText(n))
		s, _, code := octet.TakeText(b)
		scribble(b, 0)
		if code != api.OK || s != anyText(n) {
			t.Errorf("a text of %d bytes changes with the bytes that it was taken from: %d", n, code)
		}
	}
}

// P1.5: a list that was taken shares memory with no other list, earlier or later.
func TestTakeIntsIsFresh(t *testing.T) {
	for _, n := range []int{0, 1, 2, 40, 1000, api.MaxInts} {
		b := rowBytes(anyRow(n))
		first, _, _ := octet.TakeInts(b)
		second, _, _ := octet.TakeInts(b)
		scribble(first, 123456)
		third, used, code := octet.TakeInts(b)
		if !slices.Equal(second, anyRow(n)) || !slices.Equal(third, anyRow(n)) || used != len(b) || code != api.OK {
			t.Errorf("a list of %d changes as another is written over", n)
		}
		scribble(b, 0)
		if !slices.Equal(second, anyRow(n)) {
			t.Errorf("a list of %d changes with the bytes that it was taken from", n)
		}
	}
}

// W2: calls side by side do not disturb each other.
func TestSideBySide(t *testing.T) {
	var all sync.WaitGroup
	for worker := 0; worker < 8; worker++ {
		all.Go(func() {
			row, text := anyRow(50+worker), anyText(70+worker)
			for i := 0; i < 300; i++ {
				b, code := octet.Ints(row...)
				if l, used, _ := octet.TakeInts(b); code != api.OK || used != len(b) || !slices.Equal(l, row) {
					t.Errorf("worker %d: another list than its own", worker)
					return
				}
				b, code = octet.Text(text)
				if s, used, _ := octet.TakeText(b); code != api.OK || used != len(b) || s != text {
					t.Errorf("worker %d: another text than its own", worker)
					return
				}
			}
		})
	}
	all.Wait()
}
