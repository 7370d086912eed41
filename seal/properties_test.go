package seal_test

import (
	"bytes"
	"math/rand"
	"slices"
	"testing"

	"pavane/api"
	"pavane/seal"
)

// tails are what may follow a frame.
func tails() [][]byte {
	return [][]byte{nil, {0}, {1}, {127}, {128}, {129, 0}, {255}, many(12, 255), many(12, 0), frame(nil), frame([]byte("next")), anyBytes(30)}
}

// P2.5: Open gives back what Close was given, whatever follows.
func TestPayloadsComeBack(t *testing.T) {
	for n := range 300 {
		b, _ := seal.Close(anyBytes(n))
		for _, tail := range tails() {
			checkOpen(t, append(slices.Clone(b), tail...), anyBytes(n), len(b), api.OK)
		}
	}
	for _, n := range sizes() {
		b, _ := seal.Close(anyBytes(n))
		checkOpen(t, append(slices.Clone(b), 128, 128), anyBytes(n), len(b), api.OK)
	}
}

// checkOnlyFrames holds what Open accepts at the front of b against Close, and Rows against Open.
func checkOnlyFrames(t *testing.T, b []byte) {
	t.Helper()
	p, used, code := seal.Open(b)
	switch code {
	case api.OK:
		if again, _ := seal.Close(p); used > len(b) || !bytes.Equal(again, b[:used]) {
			t.Errorf("Open accepts %s, which is no frame", start(b))
		}
	case api.ErrEnd, api.ErrForm, api.ErrLong, api.ErrSum:
		if len(p) != 0 || used != 0 {
			t.Errorf("Open of %s: %s, %d beside the error %d", start(b), start(p), used, code)
		}
	default:
		t.Errorf("Open of %s: the error %d", start(b), code)
	}
	var rows [][]byte
	at := 0
	for code = api.OK; at < len(b) && code == api.OK; {
		if p, used, code = seal.Open(b[at:]); code == api.OK {
			rows, at = append(rows, p), at+used
		}
	}
	checkRows(t, b, rows, at, code)
}

// P2.5, P2.3 and W1: Open accepts frames only, Rows goes as far as Open does, and no bytes make one of them panic.
func TestOnlyFrames(t *testing.T) {
	for i := range 256 {
		for _, tail := range tails() {
			checkOnlyFrames(t, append([]byte{byte(i)}, tail...))
			checkOnlyFrames(t, append([]byte{129, byte(i)}, tail...))
			checkOnlyFrames(t, closed([]byte{byte(i)}, tail))
			checkOnlyFrames(t, closed([]byte{128, byte(i)}, tail))
		}
	}
	r := rand.New(rand.NewSource(5))
	for range 20000 {
		b := frames(anyRows(r.Intn(6))...)
		if len(b) > 0 && r.Intn(2) == 0 {
			b[r.Intn(len(b))] = byte(r.Intn(256))
		}
		if r.Intn(2) == 0 {
			at := r.Intn(len(b) + 1)
			b = slices.Insert(b, at, anyBytes(r.Intn(9))...)
		}
		checkOnlyFrames(t, b[:len(b)-r.Intn(len(b)/4+1)])
	}
}

// P2.5: rows that were closed come back; if they are cut short at any byte, those that are whole, and where they end.
func TestRowsCut(t *testing.T) {
	rows := [][]byte{[]byte("one"), nil, anyBytes(127), nil, nil, anyBytes(128), {0}, anyBytes(300), nil, []byte("last")}
	var b []byte
	ends := []int{0}
	for _, p := range rows {
		closed, _ := seal.Close(p)
		b = append(b, closed...)
		ends = append(ends, len(b))
	}
	whole := 0
	for i := range len(b) + 1 {
		if whole < len(rows) && ends[whole+1] == i {
			whole++
		}
		code := api.ErrEnd
		if ends[whole] == i {
			code = api.OK
		}
		checkRows(t, b[:i], rows[:whole], ends[whole], code)
		checkRows(t, slices.Clone(b[:i]), rows[:whole], ends[whole], code)
	}
	if whole != len(rows) {
		t.Errorf("%d rows are whole at the end", whole)
	}
}

// P2.6: each other byte in each place of a payload or a checksum makes Open and Rows refuse the frame.
func TestChangedBytes(t *testing.T) {
	for _, n := range []int{0, 1, 2, 9, 60, 130} {
		b := frame(anyBytes(n))
		ahead := frame([]byte("ahead"))
		for i := len(length(n)); i < len(b); i++ {
			for with := 1; with < 256; with++ {
				b[i] ^= byte(with)
				if p, used, code := seal.Open(b); code != api.ErrSum || used != 0 || len(p) != 0 {
					t.Fatalf("Open of %d bytes, byte %d changed by %d: %d, %d", n, i, with, used, code)
				}
				b[i] ^= byte(with)
			}
			b[i] ^= 0x10
			checkRows(t, slices.Concat(ahead, b, ahead), [][]byte{[]byte("ahead")}, len(ahead), api.ErrSum)
			b[i] ^= 0x10
		}
	}
}

// P2.6: a changed byte of a long frame, at its ends and within.
func TestChangedBytesOfLongFrames(t *testing.T) {
	for _, n := range []int{16384, 100000, api.MaxFrame} {
		b, _ := seal.Close(anyBytes(n))
		head := len(length(n))
		for _, i := range []int{head, head + 1, n / 2, head + n - 1, head + n, len(b) - 1} {
			for _, with := range []byte{1, 128, 255} {
				b[i] ^= with
				checkOpen(t, b, nil, 0, api.ErrSum)
				b[i] ^= with
			}
		}
		checkOpen(t, b, anyBytes(n), len(b), api.OK)
	}
}
