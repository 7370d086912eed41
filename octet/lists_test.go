package octet_test

import (
	"bytes"
	"fmt"
	"math"
	"math/big"
	"math/rand"
	"slices"
	"strings"
	"testing"

	"pavane/api"
	"pavane/octet"
)

func checkTakeText(t *testing.T, b []byte, s string, used int, code api.Errno) {
	t.Helper()
	if gotS, gotUsed, gotCode := octet.TakeText(b); gotS != s || gotUsed != used || gotCode != code {
		t.Errorf("TakeText of %d bytes %s: %d bytes %s, %d, %d; want %d bytes %s, %d, %d",
			len(b), start(b), len(gotS), start([]byte(gotS)), gotUsed, gotCode, len(s), start([]byte(s)), used, code)
	}
}

func checkTakeInts(t *testing.T, b []byte, l []int, used int, code api.Errno) {
	t.Helper()
	gotL, gotUsed, gotCode := octet.TakeInts(b)
	if !slices.Equal(gotL, l) || gotUsed != used || gotCode != code {
		t.Errorf("TakeInts of %d bytes %s: %d integers, %d, %d; want %d integers, %d, %d",
			len(b), start(b), len(gotL), gotUsed, gotCode, len(l), used, code)
	}
}

// start is what a message shows of bytes.
func start(b []byte) string {
	return fmt.Sprint(b[:min(len(b), 12)])
}

// anyText is a text of that many bytes, of any bytes: most are no UTF-8.
func anyText(n int) string {
	b := make([]byte, n)
	rand.New(rand.NewSource(int64(n))).Read(b)
	return string(b)
}

// textBytes is the encoding of a text by the reference.
func textBytes(s string) []byte {
	return append(varint(big.NewInt(int64(len(s)))), s...)
}

// rowBytes is the encoding of a list by the reference.
func rowBytes(l []int) []byte {
	b := varint(big.NewInt(int64(len(l))))
	for _, n := range l {
		b = append(b, varint(signed(n))...)
	}
	return b
}

// anyRow is a list of that many integers, of all sizes, the ends of int among them.
func anyRow(n int) []int {
	r := rand.New(rand.NewSource(int64(n)))
	l := make([]int, n)
	for i := range l {
		switch r.Intn(4) {
		case 0:
			l[i] = []int{0, -1, 63, -64, 64, math.MinInt64, math.MaxInt64}[r.Intn(7)]
		default:
			l[i] = int(r.Uint64()) >> r.Intn(64)
		}
	}
	return l
}

// P1.3: texts of all bytes, up to the longest.
func TestText(t *testing.T) {
	texts := []string{"", "a", "abc", "\x00", "\x00\x00", "\x80", "\xff\xfe", "é€😀", strings.Repeat("\x80", 128)}
	for _, n := range []int{2, 126, 127, 128, 129, 255, 256, 16383, 16384, 40000, api.MaxText - 1, api.MaxText} {
		texts = append(texts, anyText(n))
	}
	for _, s := range texts {
		want := textBytes(s)
		if b, code := octet.Text(s); code != api.OK || !bytes.Equal(b, want) {
			t.Errorf("Text of %d bytes: %d bytes %s, %d; want %d bytes %s", len(s), len(b), start(b), code, len(want), start(want))
		}
		checkTakeText(t, want, s, len(want), api.OK)
	}
	if b, code := octet.Text("abc"); code != api.OK || string(b) != "\x03abc" {
		t.Errorf("Text(abc): %v, %d", b, code)
	}
}

// P1.3: a text beyond the longest.
func TestTextTooLong(t *testing.T) {
	for _, n := range []int{api.MaxText + 1, api.MaxText + 2, 1 << 17} {
		if b, code := octet.Text(anyText(n)); code != api.ErrLong || len(b) != 0 {
			t.Errorf("Text of %d bytes: %d bytes, %d; want none, ErrLong", n, len(b), code)
		}
		checkTakeText(t, textBytes(anyText(n)), "", 0, api.ErrLong)
	}
}

// P1.3: the length's error comes first, then ErrLong, then ErrEnd.
func TestTakeTextErrors(t *testing.T) {
	count := func(n int64) []byte { return varint(big.NewInt(n)) }
	for _, c := range []struct {
		b    []byte
		code api.Errno
	}{
		{nil, api.ErrEnd},
		{[]byte{129}, api.ErrEnd},
		{[]byte{128}, api.ErrForm},
		{[]byte{128, 1, 97}, api.ErrForm},
		{many(9, 255, 0), api.ErrForm},
		{append([]byte{129}, many(8, 128, 0)...), api.ErrForm},
		{append([]byte{130}, many(8, 128, 0)...), api.ErrForm},
		{[]byte{1}, api.ErrEnd},
		{[]byte{2, 97}, api.ErrEnd},
		{count(api.MaxText), api.ErrEnd},
		{count(api.MaxText + 1), api.ErrLong},
		{count(1 << 32), api.ErrLong},
		{count(1<<32 + 1), api.ErrLong},
		{append(count(1<<32+1), 97), api.ErrLong},
		{count(math.MaxInt64), api.ErrLong},
		{append(count(math.MaxInt64), 97), api.ErrLong},
	} {
		checkTakeText(t, c.b, "", 0, c.code)
	}
}

// P1.3: a text that is cut short at any byte, its last one too.
func TestTakeTextCut(t *testing.T) {
	for _, n := range []int{1, 5, 127, 128, 300} {
		b := textBytes(anyText(n))
		for i := range b {
			checkTakeText(t, b[:i], "", 0, api.ErrEnd)
			checkTakeText(t, slices.Clone(b[:i]), "", 0, api.ErrEnd)
		}
	}
	b := textBytes(anyText(api.MaxText))
	for _, i := range []int{0, 1, 2, 3, 4, 1000, len(b) - 2, len(b) - 1} {
		checkTakeText(t, b[:i], "", 0, api.ErrEnd)
	}
}

// P1.3: what follows a text does not matter.
func TestTakeTextFollowed(t *testing.T) {
	checkTakeText(t, []byte{2, 97, 98, 99}, "ab", 3, api.OK)
	checkTakeText(t, []byte{0, 97}, "", 1, api.OK)
	checkTakeText(t, []byte{0, 128}, "", 1, api.OK)
	checkTakeText(t, []byte{1, 128, 128}, "\x80", 2, api.OK)
	b := textBytes(anyText(api.MaxText))
	checkTakeText(t, append(slices.Clone(b), 1, 2, 3), anyText(api.MaxText), len(b), api.OK)
}

// P1.4: lists of all integers, up to the longest.
func TestInts(t *testing.T) {
	rows := [][]int{nil, {}, {0}, {1, -1}, {-1, 1}, {math.MinInt64}, {math.MaxInt64, math.MinInt64}, {5, 5, 5}, {3, 1, 2}, make([]int, 128)}
	for _, n := range []int{2, 3, 126, 127, 128, 129, 1000, api.MaxInts - 1, api.MaxInts} {
		rows = append(rows, anyRow(n))
	}
	for _, l := range rows {
		want := rowBytes(l)
		if b, code := octet.Ints(l...); code != api.OK || !bytes.Equal(b, want) {
			t.Errorf("Ints of %d: %d bytes %s, %d; want %d bytes %s", len(l), len(b), start(b), code, len(want), start(want))
		}
		checkTakeInts(t, want, l, len(want), api.OK)
	}
}

// P1.4: the document's example, and lists written out.
func TestIntsExamples(t *testing.T) {
	if b, code := octet.Ints(1, -1); code != api.OK || string(b) != "\x02\x02\x01" {
		t.Errorf("Ints(1, -1): %v, %d", b, code)
	}
	if b, code := octet.Ints(); code != api.OK || string(b) != "\x00" {
		t.Errorf("Ints(): %v, %d", b, code)
	}
	if b, code := octet.Ints(64, 0, -65); code != api.OK || string(b) != "\x03\x81\x00\x00\x81\x01" {
		t.Errorf("Ints(64, 0, -65): %v, %d", b, code)
	}
}

// P1.4: a list beyond the longest, also when all its integers are there.
func TestIntsTooLong(t *testing.T) {
	for _, n := range []int{api.MaxInts + 1, api.MaxInts + 2, 2 * api.MaxInts} {
		if b, code := octet.Ints(anyRow(n)...); code != api.ErrLong || len(b) != 0 {
			t.Errorf("Ints of %d: %d bytes, %d; want none, ErrLong", n, len(b), code)
		}
		checkTakeInts(t, rowBytes(anyRow(n)), nil, 0, api.ErrLong)
	}
}

// P1.4: the number's error comes first, then ErrLong, then the first error of an integer.
func TestTakeIntsErrors(t *testing.T) {
	count := func(n int64, rest ...byte) []byte { return append(varint(big.NewInt(n)), rest...) }
	for _, c := range []struct {
		b    []byte
		code api.Errno
	}{
		{nil, api.ErrEnd},
		{[]byte{129}, api.ErrEnd},
		{[]byte{128}, api.ErrForm},
		{[]byte{128, 1, 0}, api.ErrForm},
		{append([]byte{129}, many(8, 128, 0, 0)...), api.ErrForm},
		{append([]byte{130}, many(8, 128, 0, 0)...), api.ErrForm},
		{count(1), api.ErrEnd},
		{count(1, 129), api.ErrEnd},
		{count(1, 128), api.ErrForm},
		{count(1, 128, 0), api.ErrForm},
		{count(2, 0), api.ErrEnd},
		{count(2, 0, 130), api.ErrEnd},
		{count(2, 0, 128), api.ErrForm},
		{count(2, 128, 0), api.ErrForm},
		{count(2, 128, 130), api.ErrForm},
		{count(3, 129, 128, 0, 128), api.ErrForm},
		{count(1, append([]byte{130}, many(8, 128, 0)...)...), api.ErrForm},
		{count(2, append([]byte{7, 130}, many(8, 128, 0)...)...), api.ErrForm},
		{count(api.MaxInts), api.ErrEnd},
		{count(api.MaxInts, 128), api.ErrForm},
		{count(api.MaxInts + 1), api.ErrLong},
		{count(api.MaxInts+1, 128), api.ErrLong},
		{count(1 << 32), api.ErrLong},
		{count(1<<32+1, 0), api.ErrLong},
		{count(math.MaxInt64), api.ErrLong},
		{count(math.MaxInt64, 128), api.ErrLong},
	} {
		checkTakeInts(t, c.b, nil, 0, c.code)
	}
}

// P1.4: a list that is cut short at any byte.
func TestTakeIntsCut(t *testing.T) {
	for _, n := range []int{1, 2, 20, 127, 128, 300} {
		b := rowBytes(anyRow(n))
		for i := range b {
			checkTakeInts(t, b[:i], nil, 0, api.ErrEnd)
			checkTakeInts(t, slices.Clone(b[:i]), nil, 0, api.ErrEnd)
		}
	}
	b := rowBytes(anyRow(api.MaxInts))
	for _, i := range []int{0, 1, 2, 3, 1000, len(b) - 2, len(b) - 1} {
		checkTakeInts(t, b[:i], nil, 0, api.ErrEnd)
	}
}

// P1.4: what follows a list does not matter.
func TestTakeIntsFollowed(t *testing.T) {
	checkTakeInts(t, []byte{2, 2, 1, 9}, []int{1, -1}, 3, api.OK)
	checkTakeInts(t, []byte{0, 128}, nil, 1, api.OK)
	checkTakeInts(t, []byte{1, 129, 0, 128}, []int{64}, 3, api.OK)
	b := rowBytes(anyRow(api.MaxInts))
	checkTakeInts(t, append(slices.Clone(b), 128, 128), anyRow(api.MaxInts), len(b), api.OK)
}
