package octet_test

import (
	"bytes"
	"math"
	"math/big"
	"math/rand"
	"testing"

	"pavane/api"
	"pavane/octet"
)

// The tests know a varint as long arithmetic only: the reference below shares nothing with the package.

var (
	maxInt  = big.NewInt(math.MaxInt64)
	maxUint = new(big.Int).SetUint64(math.MaxUint64)
)

// varint is the varint of n by division.
func varint(n *big.Int) []byte {
	rest, base, digit := new(big.Int).Set(n), big.NewInt(128), new(big.Int)
	var digits []byte
	for len(digits) == 0 || rest.Sign() > 0 {
		rest.DivMod(rest, base, digit)
		digits = append(digits, byte(digit.Int64()))
	}
	var b []byte
	for i := len(digits) - 1; i >= 0; i-- {
		if i > 0 {
			digits[i] += 128
		}
		b = append(b, digits[i])
	}
	return b
}

// signed is the number whose varint is the signed varint of n.
func signed(n int) *big.Int {
	double := new(big.Int).Mul(big.NewInt(2), big.NewInt(int64(n)))
	if n >= 0 {
		return double
	}
	return double.Neg(double).Sub(double, big.NewInt(1))
}

// takeVarint reads b byte by byte, as P1.1 and P1.2 tell it.
func takeVarint(b []byte, most *big.Int) (*big.Int, int, api.Errno) {
	n := new(big.Int)
	for i := 0; ; i++ {
		if i == len(b) {
			return new(big.Int), 0, api.ErrEnd
		}
		if i == 0 && b[0] == 128 {
			return new(big.Int), 0, api.ErrForm
		}
		n.Mul(n, big.NewInt(128)).Add(n, big.NewInt(int64(b[i]%128)))
		if n.Cmp(most) > 0 {
			return new(big.Int), 0, api.ErrForm
		}
		if b[i] < 128 {
			return n, i + 1, api.OK
		}
	}
}

// unsigned is the integer whose signed varint is the varint of n.
func unsigned(n *big.Int) int {
	half, odd := new(big.Int).DivMod(n, big.NewInt(2), new(big.Int))
	if odd.Sign() > 0 {
		half.Add(half, big.NewInt(1)).Neg(half)
	}
	return int(half.Int64())
}

// countsOfAllSizes are numbers from 0 on, with both sides of each power of two and of 128.
func countsOfAllSizes() []int {
	var l []int
	for n := 0; n < 20000; n++ {
		l = append(l, n)
	}
	for bit := 14; bit < 63; bit++ {
		l = append(l, 1<<bit-2, 1<<bit-1, 1<<bit, 1<<bit+1)
	}
	r := rand.New(rand.NewSource(1))
	for i := 0; i < 5000; i++ {
		l = append(l, int(r.Int63())>>r.Intn(63))
	}
	return append(l, math.MaxInt64-1, math.MaxInt64)
}

// integersOfAllSizes are the counts and their negatives, with the least integer.
func integersOfAllSizes() []int {
	var l []int
	for _, n := range countsOfAllSizes() {
		l = append(l, n, -n, -n-1)
	}
	return l
}

func checkTakeUint(t *testing.T, b []byte, n, used int, code api.Errno) {
	t.Helper()
	if gotN, gotUsed, gotCode := octet.TakeUint(b); gotN != n || gotUsed != used || gotCode != code {
		t.Errorf("TakeUint(%v): %d, %d, %d; want %d, %d, %d", b, gotN, gotUsed, gotCode, n, used, code)
	}
}

func checkTakeInt(t *testing.T, b []byte, n, used int, code api.Errno) {
	t.Helper()
	if gotN, gotUsed, gotCode := octet.TakeInt(b); gotN != n || gotUsed != used || gotCode != code {
		t.Errorf("TakeInt(%v): %d, %d, %d; want %d, %d, %d", b, gotN, gotUsed, gotCode, n, used, code)
	}
}

// many is n times the byte, and then the rest.
func many(n int, b byte, rest ...byte) []byte {
	return append(bytes.Repeat([]byte{b}, n), rest...)
}

// P1.1: the document's examples, and the edges.
func TestUintExamples(t *testing.T) {
	for _, c := range []struct {
		n int
		b []byte
	}{
		{0, []byte{0}},
		{1, []byte{1}},
		{126, []byte{126}},
		{127, []byte{127}},
		{128, []byte{129, 0}},
		{129, []byte{129, 1}},
		{255, []byte{129, 127}},
		{256, []byte{130, 0}},
		{300, []byte{130, 44}},
		{16383, []byte{255, 127}},
		{16384, []byte{129, 128, 0}},
		{1 << 56, []byte{129, 128, 128, 128, 128, 128, 128, 128, 0}},
		{math.MaxInt64, []byte{255, 255, 255, 255, 255, 255, 255, 255, 127}},
	} {
		b, code := octet.Uint(c.n)
		if code != api.OK || !bytes.Equal(b, c.b) {
			t.Errorf("Uint(%d): %v, %d; want %v", c.n, b, code, c.b)
		}
		checkTakeUint(t, c.b, c.n, len(c.b), api.OK)
	}
}

// P1.1: every size of number, held against the reference.
func TestUintOfAllSizes(t *testing.T) {
	for _, n := range countsOfAllSizes() {
		want := varint(big.NewInt(int64(n)))
		b, code := octet.Uint(n)
		if code != api.OK || !bytes.Equal(b, want) {
			t.Fatalf("Uint(%d): %v, %d; want %v", n, b, code, want)
		}
		checkTakeUint(t, want, n, len(want), api.OK)
	}
}

// P1.1: a negative number has no varint.
func TestUintOfNegative(t *testing.T) {
	for _, n := range []int{-1, -2, -127, -128, -129, -1 << 32, api.MinInt + 1, api.MinInt} {
		if b, code := octet.Uint(n); code != api.ErrArg || len(b) != 0 {
			t.Errorf("Uint(%d): %v, %d; want nothing, ErrArg", n, b, code)
		}
	}
}

// P1.1: bytes that are no varint; the first byte at which that shows names the error.
func TestTakeUintErrors(t *testing.T) {
	for _, c := range []struct {
		b    []byte
		code api.Errno
	}{
		{nil, api.ErrEnd},
		{[]byte{}, api.ErrEnd},
		{[]byte{129}, api.ErrEnd},
		{[]byte{130}, api.ErrEnd},
		{[]byte{255}, api.ErrEnd},
		{[]byte{129, 128}, api.ErrEnd},
		{[]byte{128}, api.ErrForm},
		{[]byte{128, 0}, api.ErrForm},
		{[]byte{128, 1}, api.ErrForm},
		{[]byte{128, 128}, api.ErrForm},
		{[]byte{128, 129, 0}, api.ErrForm},
		{many(8, 255), api.ErrEnd},
		{many(9, 255), api.ErrEnd}, // the digits so far are MaxInt, and not more
		{many(9, 255, 0), api.ErrForm},
		{many(9, 255, 127), api.ErrForm},
		{many(10, 255), api.ErrForm},
		{many(100, 255), api.ErrForm},
		{append([]byte{129}, many(8, 128)...), api.ErrEnd},
		{append([]byte{129}, many(8, 128, 0)...), api.ErrForm}, // MaxInt + 1
		{append([]byte{129}, many(9, 128)...), api.ErrForm},    // as great, and no last digit
		{append([]byte{129}, many(8, 128, 1)...), api.ErrForm},
		{append([]byte{129}, many(8, 255, 127)...), api.ErrForm}, // 2^64 - 1
		{append([]byte{130}, many(8, 128, 0)...), api.ErrForm},   // 2^64: 0 in 64 bits
		{append([]byte{130}, many(8, 128, 5)...), api.ErrForm},
		{append([]byte{129}, many(18, 128, 7)...), api.ErrForm}, // 7 in 64 bits
		{append([]byte{129}, many(30, 128)...), api.ErrForm},
	} {
		checkTakeUint(t, c.b, 0, 0, c.code)
	}
}

// P1.1: what follows the varint does not matter.
func TestTakeUintFollowed(t *testing.T) {
	checkTakeUint(t, []byte{130, 44, 9}, 300, 2, api.OK)
	checkTakeUint(t, []byte{0, 128}, 0, 1, api.OK)
	checkTakeUint(t, []byte{0, 0, 0}, 0, 1, api.OK)
	checkTakeUint(t, []byte{127, 255, 255}, 127, 1, api.OK)
	checkTakeUint(t, []byte{129, 0, 129, 0}, 128, 2, api.OK)
	checkTakeUint(t, many(8, 255, 127, 127), math.MaxInt64, 9, api.OK)
}

// P1.2: the document's examples, and the edges.
func TestIntExamples(t *testing.T) {
	for _, c := range []struct {
		n int
		b []byte
	}{
		{0, []byte{0}},
		{-1, []byte{1}},
		{1, []byte{2}},
		{-2, []byte{3}},
		{2, []byte{4}},
		{63, []byte{126}},
		{-64, []byte{127}},
		{64, []byte{129, 0}},
		{-65, []byte{129, 1}},
		{127, []byte{129, 126}},
		{128, []byte{130, 0}},
		{math.MaxInt64, []byte{129, 255, 255, 255, 255, 255, 255, 255, 255, 126}},
		{math.MinInt64, []byte{129, 255, 255, 255, 255, 255, 255, 255, 255, 127}},
	} {
		if b := octet.Int(c.n); !bytes.Equal(b, c.b) {
			t.Errorf("Int(%d): %v; want %v", c.n, b, c.b)
		}
		checkTakeInt(t, c.b, c.n, len(c.b), api.OK)
	}
}

// P1.2: every size of integer, held against the reference.
func TestIntOfAllSizes(t *testing.T) {
	for _, n := range integersOfAllSizes() {
		want := varint(signed(n))
		if b := octet.Int(n); !bytes.Equal(b, want) {
			t.Fatalf("Int(%d): %v; want %v", n, b, want)
		}
		checkTakeInt(t, want, n, len(want), api.OK)
	}
}

// P1.2: bytes that are no signed varint; its numbers go up to 2^64 - 1.
func TestTakeIntErrors(t *testing.T) {
	for _, c := range []struct {
		b    []byte
		code api.Errno
	}{
		{nil, api.ErrEnd},
		{[]byte{}, api.ErrEnd},
		{[]byte{129}, api.ErrEnd},
		{[]byte{255, 255}, api.ErrEnd},
		{[]byte{128}, api.ErrForm},
		{[]byte{128, 0}, api.ErrForm},
		{[]byte{128, 1}, api.ErrForm},
		{[]byte{128, 128, 1}, api.ErrForm},
		{many(9, 255), api.ErrEnd},
		{many(9, 255, 0), api.ErrForm},
		{many(9, 255, 127), api.ErrForm},
		{many(10, 255), api.ErrForm},
		{append([]byte{129}, many(8, 255)...), api.ErrEnd},
		{append([]byte{129}, many(9, 255)...), api.ErrEnd}, // the digits so far are 2^64 - 1, and not more
		{append([]byte{129}, many(9, 255, 0)...), api.ErrForm},
		{append([]byte{129}, many(10, 255)...), api.ErrForm},
		{append([]byte{130}, many(8, 128)...), api.ErrEnd},
		{append([]byte{130}, many(8, 128, 0)...), api.ErrForm}, // 2^64
		{append([]byte{130}, many(9, 128)...), api.ErrForm},    // as great, and no last digit
		{append([]byte{130}, many(8, 128, 1)...), api.ErrForm},
		{append([]byte{131}, many(8, 255, 127)...), api.ErrForm},
		{append([]byte{129}, many(9, 128, 0)...), api.ErrForm},
		{append([]byte{129}, many(18, 128, 7)...), api.ErrForm}, // 7 in 64 bits
		{append([]byte{129}, many(30, 128)...), api.ErrForm},
	} {
		checkTakeInt(t, c.b, 0, 0, c.code)
	}
}

// P1.2: what follows the signed varint does not matter; what is too great for TakeUint is not so here.
func TestTakeIntFollowed(t *testing.T) {
	checkTakeInt(t, []byte{1, 9}, -1, 1, api.OK)
	checkTakeInt(t, []byte{0, 128}, 0, 1, api.OK)
	checkTakeInt(t, []byte{130, 0, 255}, 128, 2, api.OK)
	checkTakeInt(t, many(8, 255, 127, 3), -1<<62, 9, api.OK)
	checkTakeInt(t, append([]byte{129}, many(8, 128, 0, 0)...), 1<<62, 10, api.OK)
	checkTakeInt(t, append([]byte{129}, many(8, 255, 127, 127)...), math.MinInt64, 10, api.OK)
}

// P1.1 and P1.2: all short bytes, and long ones of the digits that stand at edges, held against the reference.
func TestTakeVarintsOfAnyBytes(t *testing.T) {
	check := func(b []byte) {
		t.Helper()
		n, used, code := takeVarint(b, maxInt)
		checkTakeUint(t, b, int(n.Int64()), used, code)
		n, used, code = takeVarint(b, maxUint)
		checkTakeInt(t, b, unsigned(n), used, code)
	}
	for i := 0; i < 256; i++ {
		check([]byte{byte(i)})
		for j := 0; j < 256; j++ {
			check([]byte{byte(i), byte(j)})
			for _, k := range []byte{0, 1, 127, 128, 129, 255} {
				check([]byte{byte(i), byte(j), k})
			}
		}
	}
	r := rand.New(rand.NewSource(2))
	edges := []byte{0, 1, 126, 127, 128, 129, 130, 254, 255}
	for i := 0; i < 50000; i++ {
		b := make([]byte, 7+r.Intn(7))
		for j := range b {
			if b[j] = edges[r.Intn(len(edges))]; r.Intn(9) > 0 {
				b[j] |= 128
			}
		}
		check(b)
	}
}
