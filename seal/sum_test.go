package seal_test

import (
	"fmt"
	"hash/crc32"
	"math/bits"
	"math/rand"
	"slices"
	"strings"
	"testing"

	"pavane/seal"
)

// reference is the checksum by the library's CRC-32, which takes the bits of each byte, and of the result, the other way round; it shares nothing with the package.
func reference(b []byte) int {
	turned := make([]byte, len(b))
	for i := range b {
		turned[i] = bits.Reverse8(b[i])
	}
	return int(bits.Reverse32(crc32.ChecksumIEEE(turned)))
}

// byTheWords is the checksum as the chapter's words tell it, bit by bit, with a list of 32 bits for the register, the most significant one first.
func byTheWords(b []byte) int {
	register, poly := make([]bool, 32), make([]bool, 32)
	for i := range register {
		register[i] = true
		poly[i] = 0x04C11DB7>>(31-i)&1 == 1
	}
	for _, c := range b {
		for i := range 8 {
			register[i] = register[i] != (c>>(7-i)&1 == 1)
		}
		for range 8 {
			out := register[0]
			register = append(register[1:32:32], false)
			for i := range register {
				register[i] = register[i] != (out && poly[i])
			}
		}
	}
	n := 0
	for _, bit := range register {
		n *= 2
		if !bit {
			n++
		}
	}
	return n
}

// anyBytes are that many bytes, of all kinds, the same ones each time.
func anyBytes(n int) []byte {
	b := make([]byte, n)
	rand.New(rand.NewSource(int64(n))).Read(b)
	return b
}

// many is n times the byte, and then the rest.
func many(n int, b byte, rest ...byte) []byte {
	return append(slices.Repeat([]byte{b}, n), rest...)
}

// start is what a message shows of bytes.
func start(b []byte) string {
	return fmt.Sprint(len(b), " bytes ", b[:min(len(b), 12)])
}

func checkSum(t *testing.T, want int, parts ...[]byte) {
	t.Helper()
	if got := seal.Sum(parts...); got != want {
		t.Errorf("Sum of %d parts: %d; want %d", len(parts), got, want)
	}
}

// P2.1: the document's examples.
func TestSumExamples(t *testing.T) {
	checkSum(t, 4236843288, []byte("123456789"))
	checkSum(t, 4236843288, []byte("12"), []byte(""), []byte("3456789"))
	checkSum(t, 4236843288, []byte("12"), nil, []byte("3456789"))
}

// P2.1: of nothing, all bits are inverted again.
func TestSumOfNothing(t *testing.T) {
	checkSum(t, 0)
	checkSum(t, 0, nil)
	checkSum(t, 0, []byte{})
	checkSum(t, 0, nil, []byte{}, nil)
}

// P2.1: each byte alone, and each behind another, has the checksum that the words tell.
func TestSumOfEachByte(t *testing.T) {
	for i := range 256 {
		one, two := []byte{byte(i)}, []byte{byte(i * 7), byte(i)}
		if reference(one) != byTheWords(one) || reference(two) != byTheWords(two) {
			t.Fatalf("the references differ at %d", i)
		}
		checkSum(t, byTheWords(one), one)
		checkSum(t, byTheWords(two), two)
	}
}

// P2.1: bytes of all kinds and numbers, up to more than a frame.
func TestSumOfAllSizes(t *testing.T) {
	for n := range 300 {
		if b := anyBytes(n); reference(b) != byTheWords(b) {
			t.Fatalf("the references differ at %d bytes", n)
		}
		checkSum(t, reference(anyBytes(n)), anyBytes(n))
		checkSum(t, reference(many(n, 0)), many(n, 0))
		checkSum(t, reference(many(n, 255)), many(n, 255))
	}
	for _, n := range []int{1000, 4095, 65536, 1<<20 + 1, 3 << 20} {
		checkSum(t, reference(anyBytes(n)), anyBytes(n))
	}
}

// P2.1: it does not matter how the bytes are parted, as long as they come in their order.
func TestSumOfParts(t *testing.T) {
	b := anyBytes(60)
	want := reference(b)
	for i := range len(b) + 1 {
		for j := i; j <= len(b); j++ {
			checkSum(t, want, b[:i], b[i:j], b[j:])
		}
	}
	var singles [][]byte
	for i := range b {
		singles = append(singles, b[i:i+1], nil)
	}
	checkSum(t, want, singles...)
	if seal.Sum([]byte("ab"), []byte("cd")) == seal.Sum([]byte("cd"), []byte("ab")) {
		t.Error("the order of the parts does not matter")
	}
}

// P2.1: a checksum is from 0 to 2^32 - 1, and both the least and great ones come.
func TestSumRange(t *testing.T) {
	least, greatest := 1<<32, -1
	for n := range 20000 {
		sum := seal.Sum([]byte(strings.Repeat("x", n%5)), []byte{byte(n), byte(n >> 8)})
		least, greatest = min(least, sum), max(greatest, sum)
	}
	if least < 0 || least > 1<<22 || greatest >= 1<<32 || greatest < 1<<32-1<<22 {
		t.Errorf("the checksums go from %d to %d", least, greatest)
	}
}
