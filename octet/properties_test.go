package octet_test

import (
	"bytes"
	"math/rand"
	"slices"
	"testing"

	"pavane/api"
	"pavane/octet"
)

// tails are what may follow an encoding.
func tails() [][]byte {
	return [][]byte{nil, {0}, {1}, {127}, {128}, {129, 0}, {255}, many(12, 255), many(12, 0), many(12, 128), []byte(anyText(30))}
}

// P1.6: TakeUint and TakeInt give back what was encoded, whatever follows.
func TestNumbersComeBack(t *testing.T) {
	counts, integers := countsOfAllSizes(), integersOfAllSizes()
	for _, tail := range tails() {
		for i := 0; i < len(counts); i += 7 {
			b, _ := octet.Uint(counts[i])
			checkTakeUint(t, append(slices.Clone(b), tail...), counts[i], len(b), api.OK)
		}
		for i := 0; i < len(integers); i += 7 {
			b := octet.Int(integers[i])
			checkTakeInt(t, append(slices.Clone(b), tail...), integers[i], len(b), api.OK)
		}
	}
}

// P1.6: TakeText and TakeInts give back what was encoded, whatever follows.
func TestListsComeBack(t *testing.T) {
	for _, tail := range tails() {
		for n := 0; n < 300; n++ {
			b, _ := octet.Text(anyText(n))
			checkTakeText(t, append(slices.Clone(b), tail...), anyText(n), len(b), api.OK)
			b, _ = octet.Ints(anyRow(n)...)
			checkTakeInts(t, append(slices.Clone(b), tail...), anyRow(n), len(b), api.OK)
		}
	}
}

// P1.6: encodings that stand one behind the other are taken one after the other.
func TestOneBehindTheOther(t *testing.T) {
	var b []byte
	for n := 0; n < 200; n++ {
		count, _ := octet.Uint(n * n * n)
		text, _ := octet.Text(anyText(n))
		row, _ := octet.Ints(anyRow(n)...)
		b = slices.Concat(b, count, octet.Int(-n*n), text, row)
	}
	for n := 0; n < 200; n++ {
		count, used, _ := octet.TakeUint(b)
		b = b[used:]
		integer, used, _ := octet.TakeInt(b)
		b = b[used:]
		text, used, _ := octet.TakeText(b)
		b = b[used:]
		row, used, _ := octet.TakeInts(b)
		b = b[used:]
		if count != n*n*n || integer != -n*n || text != anyText(n) || !slices.Equal(row, anyRow(n)) {
			t.Fatalf("the values of round %d are others: %d, %d", n, count, integer)
		}
	}
	if len(b) != 0 {
		t.Errorf("%d bytes are left", len(b))
	}
}

// checkOnlyForm holds what is decoded from b against its encoding, and errors against the contract.
func checkOnlyForm(t *testing.T, b []byte) {
	t.Helper()
	known := func(code api.Errno, used int, among ...api.Errno) bool {
		if code != api.OK {
			return used == 0 && slices.Contains(among, code)
		}
		return used > 0 && used <= len(b)
	}
	n, used, code := octet.TakeUint(b)
	again, _ := octet.Uint(n)
	if !known(code, used, api.ErrEnd, api.ErrForm) || code == api.OK && !bytes.Equal(again, b[:used]) || code != api.OK && n != 0 {
		t.Errorf("TakeUint(%v): %d, %d, %d; Uint gives %v", b, n, used, code, again)
	}
	n, used, code = octet.TakeInt(b)
	again = octet.Int(n)
	if !known(code, used, api.ErrEnd, api.ErrForm) || code == api.OK && !bytes.Equal(again, b[:used]) || code != api.OK && n != 0 {
		t.Errorf("TakeInt(%v): %d, %d, %d; Int gives %v", b, n, used, code, again)
	}
	s, used, code := octet.TakeText(b)
	again, _ = octet.Text(s)
	if !known(code, used, api.ErrEnd, api.ErrForm, api.ErrLong) || code == api.OK && !bytes.Equal(again, b[:used]) || code != api.OK && s != "" {
		t.Errorf("TakeText(%v): %q, %d, %d; Text gives %v", b, s, used, code, again)
	}
	l, used, code := octet.TakeInts(b)
	again, _ = octet.Ints(l...)
	if !known(code, used, api.ErrEnd, api.ErrForm, api.ErrLong) || code == api.OK && !bytes.Equal(again, b[:used]) || code != api.OK && len(l) != 0 {
		t.Errorf("TakeInts(%v): %v, %d, %d; Ints gives %v", b, l, used, code, again)
	}
}

// P1.6 and W1: whatever is decoded has that one encoding; no bytes make a Take function panic.
func TestOnlyOneForm(t *testing.T) {
	for i := 0; i < 256; i++ {
		for j := 0; j < 256; j++ {
			checkOnlyForm(t, []byte{byte(i), byte(j)})
			checkOnlyForm(t, []byte{1, byte(i), byte(j)})
			checkOnlyForm(t, []byte{2, byte(i), byte(j), 128})
			checkOnlyForm(t, []byte{129, 128, byte(i), byte(j)})
		}
	}
	r := rand.New(rand.NewSource(3))
	for i := 0; i < 50000; i++ {
		b := make([]byte, r.Intn(24))
		for j := range b {
			b[j] = byte(r.Intn(256))
			if r.Intn(3) == 0 {
				b[j] = []byte{0, 1, 2, 3, 127, 128, 129, 130, 255}[r.Intn(9)]
			}
		}
		checkOnlyForm(t, b)
	}
}

// P1.6: the varint of a greater number is not shorter; one digit more comes at each power of 128 only.
func TestLengthsRise(t *testing.T) {
	counts := countsOfAllSizes()
	slices.Sort(counts)
	last := 1
	for _, n := range counts {
		b, _ := octet.Uint(n)
		digits := 1
		for rest := n; rest >= 128; rest /= 128 {
			digits++
		}
		if len(b) < last || len(b) != digits {
			t.Fatalf("Uint(%d) has %d bytes; want %d, and one before has %d", n, len(b), digits, last)
		}
		last = len(b)
	}
}

// W2: the same call has the same result.
func TestSameAgain(t *testing.T) {
	first, second := encodings(t), encodings(t)
	for i := range first {
		if !bytes.Equal(first[i], second[i]) {
			t.Errorf("encoding %d: %v, then %v", i, first[i], second[i])
		}
	}
}
