package calc_test

import (
	"math/big"
	"math/rand"
	"slices"
	"strings"
	"testing"

	"pavane/api"
	"pavane/calc"
)

// decimal is the decimal representation of n by long division.
func decimal(n int) string {
	rest, base, digit := big.NewInt(int64(n)), big.NewInt(10), new(big.Int)
	rest.Abs(rest)
	var b []byte
	for len(b) == 0 || rest.Sign() > 0 {
		rest.DivMod(rest, base, digit)
		b = append(b, '0'+byte(digit.Int64()))
	}
	if n < 0 {
		b = append(b, '-')
	}
	slices.Reverse(b)
	return string(b)
}

func checkText(t *testing.T, n int, s string) {
	t.Helper()
	if got := calc.Text(n); got != s {
		t.Errorf("Text(%d): %q; want %q", n, got, s)
	}
}

func checkParse(t *testing.T, s string, n, used int, code api.Errno) {
	t.Helper()
	if gotN, gotUsed, gotCode := calc.Parse(s); gotN != n || gotUsed != used || gotCode != code {
		t.Errorf("Parse of %d bytes %q: %d, %d, %d; want %d, %d, %d", len(s), s[:min(len(s), 40)], gotN, gotUsed, gotCode, n, used, code)
	}
}

// P3.3: numbers of all sizes and both signs.
func TestText(t *testing.T) {
	for n, s := range map[int]string{
		0: "0", 1: "1", -1: "-1", 9: "9", 10: "10", -10: "-10", 99: "99", 100: "100", -100: "-100", 1234567890: "1234567890",
		api.MaxInt: "9223372036854775807", -api.MaxInt: "-9223372036854775807", api.MinInt: "-9223372036854775808",
	} {
		checkText(t, n, s)
	}
	for n := -2000; n <= 2000; n++ {
		checkText(t, n, decimal(n))
	}
	for _, n := range edges() {
		checkText(t, n, decimal(n))
	}
	r := rand.New(rand.NewSource(4))
	for range 5000 {
		n := anyInt(r)
		checkText(t, n, decimal(n))
	}
}

// P3.3: the document's examples.
func TestParseExamples(t *testing.T) {
	checkParse(t, "12a", 12, 2, api.OK)
	checkParse(t, "012", 0, 0, api.ErrForm)
	checkParse(t, "0x", 0, 1, api.OK)
	checkParse(t, "9223372036854775808", 0, 0, api.ErrNum)
	checkParse(t, "", 0, 0, api.ErrEnd)
}

// P3.3: digits alone.
func TestParse(t *testing.T) {
	for _, c := range []struct {
		s string
		n int
	}{
		{"0", 0}, {"1", 1}, {"9", 9}, {"10", 10}, {"19", 19}, {"90", 90}, {"100", 100}, {"1234567890", 1234567890},
		{"999999999999999999", 999999999999999999}, {"1000000000000000000", 1000000000000000000}, {"9223372036854775799", 9223372036854775799},
		{"9223372036854775806", api.MaxInt - 1}, {"9223372036854775807", api.MaxInt},
	} {
		checkParse(t, c.s, c.n, len(c.s), api.OK)
	}
	for n := range 3000 {
		checkParse(t, decimal(n), n, len(decimal(n)), api.OK)
	}
}

// P3.3: the run of digits ends at any other byte, whatever stands behind it.
func TestParseFollowed(t *testing.T) {
	for i := range 256 {
		if '0' <= i && i <= '9' {
			continue
		}
		behind := string([]byte{byte(i)})
		checkParse(t, "0"+behind, 0, 1, api.OK)
		checkParse(t, "0"+behind+"0", 0, 1, api.OK)
		checkParse(t, "407"+behind+"12", 407, 3, api.OK)
		checkParse(t, "9223372036854775807"+behind+"1", api.MaxInt, 19, api.OK)
	}
	for _, behind := range []string{"_0", ".5", "e3", "E3", "x1F", "b1", "o7", " 4", "-4", "+4", ",000", "\x00", "\n", "\u0661", "\uff11", "\u00b2", "\xff\xfe"} {
		checkParse(t, "0"+behind, 0, 1, api.OK)
		checkParse(t, "12"+behind, 12, 2, api.OK)
	}
	checkParse(t, "5"+strings.Repeat(" ", 100000), 5, 1, api.OK)
}

// P3.3: what does not begin with a digit; signs and digits of other scripts are none.
func TestParseNoDigit(t *testing.T) {
	for i := range 256 {
		if '0' <= i && i <= '9' {
			continue
		}
		checkParse(t, string([]byte{byte(i)}), 0, 0, api.ErrForm)
		checkParse(t, string([]byte{byte(i), '1'}), 0, 0, api.ErrForm)
	}
	for _, s := range []string{"-1", "+1", " 1", "-", "--1", "_1", "\u0661", "\uff11", "abc", "-9223372036854775809", "-0"} {
		checkParse(t, s, 0, 0, api.ErrForm)
	}
}

// P3.3: a 0 in front of another digit comes ahead of a number that is too great.
func TestParseLeadingZero(t *testing.T) {
	for _, s := range []string{"00", "01", "09", "000", "00x", "01x", "007", "09223372036854775807", "09223372036854775808", "0" + strings.Repeat("9", 100), strings.Repeat("0", 100)} {
		checkParse(t, s, 0, 0, api.ErrForm)
	}
}

// P3.3: numbers beyond MaxInt, also those that come round to a small one.
func TestParseTooGreat(t *testing.T) {
	for _, s := range []string{
		"9223372036854775809", "9223372036854775810", "9223372036854775900", "9300000000000000000", "9999999999999999999", "10000000000000000000",
		"18446744073709551615", "18446744073709551616", "18446744073709551617", "36893488147419103237", "92233720368547758070", "340282366920938463463374607431768211461",
		strings.Repeat("9", 50), "1" + strings.Repeat("0", 64), "1" + strings.Repeat("0", 100000),
	} {
		checkParse(t, s, 0, 0, api.ErrNum)
		checkParse(t, s+"x", 0, 0, api.ErrNum)
		checkParse(t, s+" 1", 0, 0, api.ErrNum)
	}
}
