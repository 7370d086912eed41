package seal_test

import (
	"bytes"
	"math"
	"slices"
	"testing"

	"pavane/api"
	"pavane/seal"
)

// length is the varint of n, by division.
func length(n int) []byte {
	b := []byte{byte(n % 128)}
	for n /= 128; n > 0; n /= 128 {
		b = append([]byte{byte(n%128) + 128}, b...)
	}
	return b
}

// closed is those bytes with their checksum behind them, whatever they are.
func closed(parts ...[]byte) []byte {
	b := slices.Concat(parts...)
	sum := reference(b)
	return append(b, byte(sum>>24), byte(sum>>16), byte(sum>>8), byte(sum))
}

// frame is the frame of a payload by the reference, also of one that is too long.
func frame(p []byte) []byte {
	return closed(length(len(p)), p)
}

// sizes are numbers of bytes of payloads: few, and both sides of where the length takes a byte more.
func sizes() []int {
	return []int{0, 1, 2, 3, 4, 5, 6, 50, 126, 127, 128, 129, 255, 256, 257, 16383, 16384, 65535, 65536, api.MaxFrame - 1, api.MaxFrame}
}

func checkOpen(t *testing.T, b, p []byte, used int, code api.Errno) {
	t.Helper()
	gotP, gotUsed, gotCode := seal.Open(b)
	if !bytes.Equal(gotP, p) || gotUsed != used || gotCode != code {
		t.Errorf("Open of %s: %s, %d, %d; want %s, %d, %d", start(b), start(gotP), gotUsed, gotCode, start(p), used, code)
	}
}

// P2.1: the document's examples, and their sums.
func TestCloseExamples(t *testing.T) {
	for _, c := range []struct {
		p    string
		want []byte
	}{
		{"", closed([]byte{0})},
		{"a", closed([]byte{1, 97})},
		{"123456789", closed([]byte("\x09123456789"))},
	} {
		b, code := seal.Close([]byte(c.p))
		if code != api.OK || !bytes.Equal(b, c.want) {
			t.Errorf("Close(%q): %v, %d; want %v", c.p, b, code, c.want)
		}
	}
	if b, code := seal.Close(nil); code != api.OK || len(b) != 5 || b[0] != 0 {
		t.Errorf("Close of no bytes: %v, %d", b, code)
	}
}

// P2.1: payloads of all sizes up to the longest: the length, the payload, the checksum of both.
func TestClose(t *testing.T) {
	for _, n := range sizes() {
		for _, p := range [][]byte{anyBytes(n), many(n, 0), many(n, 255)} {
			if b, code := seal.Close(p); code != api.OK || !bytes.Equal(b, frame(p)) {
				t.Errorf("Close of %d bytes: %s, %d; want %s", n, start(b), code, start(frame(p)))
			}
		}
	}
}

// P2.1: a payload beyond the longest.
func TestCloseTooLong(t *testing.T) {
	for _, n := range []int{api.MaxFrame + 1, api.MaxFrame + 2, 2 * api.MaxFrame} {
		if b, code := seal.Close(make([]byte, n)); code != api.ErrLong || len(b) != 0 {
			t.Errorf("Close of %d bytes: %s, %d; want none, ErrLong", n, start(b), code)
		}
	}
}

// P2.2: frames of all sizes, alone and followed.
func TestOpen(t *testing.T) {
	for _, n := range sizes() {
		p := anyBytes(n)
		b := frame(p)
		checkOpen(t, b, p, len(b), api.OK)
		checkOpen(t, append(slices.Clone(b), 128), p, len(b), api.OK)
		checkOpen(t, append(slices.Clone(b), b...), p, len(b), api.OK)
	}
}

// P2.2: the errors of TakeUint for the length.
func TestOpenLengthErrors(t *testing.T) {
	for _, c := range []struct {
		b    []byte
		code api.Errno
	}{
		{nil, api.ErrEnd},
		{[]byte{}, api.ErrEnd},
		{[]byte{129}, api.ErrEnd},
		{[]byte{192, 128}, api.ErrEnd},
		{[]byte{128}, api.ErrForm},
		{[]byte{128, 0}, api.ErrForm},
		{closed([]byte{128, 0}), api.ErrForm},
		{closed([]byte{128, 1, 97}), api.ErrForm},
		{many(9, 255), api.ErrEnd},
		{many(9, 255, 0), api.ErrForm},
		{append([]byte{129}, many(9, 128)...), api.ErrForm},
		{many(40, 255), api.ErrForm},
	} {
		checkOpen(t, c.b, nil, 0, c.code)
	}
}

// P2.2: a length beyond the longest comes ahead of the end and of the checksum.
func TestOpenTooLong(t *testing.T) {
	for _, n := range []int{api.MaxFrame + 1, api.MaxFrame + 2, 1 << 31, 1 << 32, 1<<32 + 1, math.MaxInt64 - 8, math.MaxInt64} {
		checkOpen(t, length(n), nil, 0, api.ErrLong)
		checkOpen(t, append(length(n), 97), nil, 0, api.ErrLong)
		checkOpen(t, closed(length(n), []byte{97}), nil, 0, api.ErrLong)
	}
	checkOpen(t, frame(anyBytes(api.MaxFrame+1)), nil, 0, api.ErrLong)
	checkOpen(t, length(api.MaxFrame), nil, 0, api.ErrEnd)
}

// P2.2: a frame that is cut short at any byte.
func TestOpenCut(t *testing.T) {
	for _, n := range []int{0, 1, 2, 5, 127, 128, 300} {
		b := frame(anyBytes(n))
		for i := range b {
			checkOpen(t, b[:i], nil, 0, api.ErrEnd)
			checkOpen(t, slices.Clone(b[:i]), nil, 0, api.ErrEnd)
		}
	}
	b := frame(anyBytes(api.MaxFrame))
	for i := 1; i <= 8; i++ {
		checkOpen(t, b[:len(b)-i], nil, 0, api.ErrEnd)
	}
}

// P2.2: a checksum that differs; if bytes are missing too, ErrEnd comes first.
func TestOpenOtherSum(t *testing.T) {
	for _, n := range []int{0, 1, 9, 127, 128, 300} {
		b := frame(anyBytes(n))
		for i := len(b) - 4; i < len(b); i++ {
			for bit := range 8 {
				turned := slices.Clone(b)
				turned[i] ^= 1 << bit
				checkOpen(t, turned, nil, 0, api.ErrSum)
				checkOpen(t, append(turned, 1, 2, 3), nil, 0, api.ErrSum)
				checkOpen(t, turned[:len(turned)-1], nil, 0, api.ErrEnd)
			}
		}
		tail := b[len(b)-4:]
		slices.Reverse(tail)
		checkOpen(t, b, nil, 0, api.ErrSum)
	}
	checkOpen(t, many(5, 0), nil, 0, api.ErrSum)
	checkOpen(t, append([]byte{1, 97}, frame([]byte{97})[3:]...), nil, 0, api.ErrEnd)
}

// P2.2: the checksum is of the length and the payload, not of the payload alone.
func TestOpenSumOfPayload(t *testing.T) {
	for _, p := range []string{"a", "pavane", "\x00\x00"} {
		b := append(length(len(p)), closed([]byte(p))...)
		checkOpen(t, b, nil, 0, api.ErrSum)
	}
}
