package scan_test

import (
	"math/rand"
	"slices"
	"strconv"
	"strings"
	"testing"

	"pavane/api"
	"pavane/scan"
)

// written is how a token stands in a source.
func written(t api.Token) string {
	if t.Kind == api.TokInt {
		return strconv.Itoa(t.Num)
	}
	return t.Text
}

// placed are the tokens, moved by so many bytes.
func placed(l []api.Token, by int) []api.Token {
	l = slices.Clone(l)
	for i := range l {
		l[i].At += by
	}
	return l
}

// placeless are the tokens without their offsets.
func placeless(l []api.Token) []api.Token {
	l = slices.Clone(l)
	for i := range l {
		l[i].At = 0
	}
	return l
}

// rightTokens are the tokens of a source without an error.
func rightTokens(t *testing.T, s string) []api.Token {
	t.Helper()
	l, f := scan.Tokens(s)
	if f != (api.Fault{}) || len(l) == 0 {
		t.Fatalf("Tokens of %d bytes %q: %d tokens, %v", len(s), start(s), len(l), f)
	}
	return l
}

// P4.4: each token stands at its offset, and between the tokens there is nothing but white space.
func TestOnlySpaceBetween(t *testing.T) {
	r := rand.New(rand.NewSource(9))
	for range 5000 {
		s := rightSource(r, 1+r.Intn(12))
		at := 0
		for _, x := range rightTokens(t, s) {
			if x.At < at || x.At > len(s) || spacePattern.FindString(s[at:x.At]) != s[at:x.At] {
				t.Fatalf("Tokens(%q): %v does not stand behind white space from %d on", s, x, at)
			}
			if !strings.HasPrefix(s[x.At:], written(x)) {
				t.Fatalf("Tokens(%q): %v does not stand there", s, x)
			}
			at = x.At + len(written(x))
		}
		if at != len(s) {
			t.Fatalf("Tokens(%q) end at %d", s, at)
		}
	}
}

// P4.4: the tokens that are written with a byte 10 between each two of them scan to the same ones.
func TestTokensWrittenAgain(t *testing.T) {
	r := rand.New(rand.NewSource(10))
	for range 5000 {
		checkWrittenAgain(t, rightSource(r, 1+r.Intn(12)))
	}
	for _, s := range []string{"", "//", "a", "- >", "/ /", "= =", "a//b\n//c\nd", strings.Repeat("; ", api.MaxSource/2), strings.Repeat("12 ", api.MaxSource/3)} {
		checkWrittenAgain(t, s)
	}
}

func checkWrittenAgain(t *testing.T, s string) {
	t.Helper()
	l := rightTokens(t, s)
	var lines []string
	for _, x := range l[:len(l)-1] {
		lines = append(lines, written(x))
	}
	again := strings.Join(lines, "\n")
	if !slices.Equal(placeless(rightTokens(t, again)), placeless(l)) {
		t.Fatalf("Tokens(%q) are others than those of %q", start(again), start(s))
	}
}

// P4.4: the tokens of two sources with a byte 10 between are those of both, though the first one ends in a comment or in half of a sign.
func TestTokensOfTwoSources(t *testing.T) {
	r := rand.New(rand.NewSource(11))
	for range 5000 {
		checkTwo(t, rightSource(r, r.Intn(8)), rightSource(r, r.Intn(8)))
	}
	ends := []string{"", "a", "in", "-", "/", "=", "<", "//", "// x", "1", "0", " ", "\n", "\r"}
	for _, a := range ends {
		for _, b := range []string{"", "a", "in", ">", "/", "=", "//", "1", "0", "_", " ", "\n"} {
			checkTwo(t, a, b)
		}
	}
	half := strings.Repeat("a;", api.MaxSource/4)
	checkTwo(t, half, half[1:])
	checkFault(t, half+"\n"+half, api.ErrLong, -1)
}

func checkTwo(t *testing.T, a, b string) {
	t.Helper()
	first, second := rightTokens(t, a), rightTokens(t, b)
	want := slices.Concat(first[:len(first)-1], placed(second, len(a)+1))
	if !slices.Equal(rightTokens(t, a+"\n"+b), want) {
		t.Fatalf("the tokens of %q and %q, with a byte 10 between, are not those of both", start(a), start(b))
	}
}

// W2: the same source has the same tokens, whatever was scanned before.
func TestTokensAgain(t *testing.T) {
	r := rand.New(rand.NewSource(12))
	for range 500 {
		s := anySource(r, 6)
		l, f := scan.Tokens(s)
		scan.Tokens(anySource(r, 6))
		if again, g := scan.Tokens(s); g != f || !slices.Equal(again, l) {
			t.Fatalf("Tokens(%q): %v, %v, and then %v, %v", s, l, f, again, g)
		}
	}
}
