package scan_test

import (
	"math/rand"
	"slices"
	"strings"
	"testing"

	"pavane/api"
	"pavane/scan"
)

func checkName(t *testing.T, s string, want bool) {
	t.Helper()
	if got := scan.Name(s); got != want {
		t.Errorf("Name of %d bytes %q: %v; want %v", len(s), start(s), got, want)
	}
}

// P4.2: names of letters and digits, up to the longest.
func TestName(t *testing.T) {
	for _, s := range []string{"a", "z", "A", "Z", "_", "__", "_0", "a0", "Zz9_", "inn", "In", "IN", "i", "n", "on1", "_on", "states", "stat", strings.Repeat("a", api.MaxName), strings.Repeat("_", api.MaxName), "x" + strings.Repeat("0", api.MaxName-1)} {
		checkName(t, s, true)
	}
}

// P4.2: the empty string, what begins with a digit, what is too long, and other bytes anywhere.
func TestNameWrong(t *testing.T) {
	long := strings.Repeat("a", api.MaxName)
	for _, s := range []string{"", "0", "1a", "9", "12", "0_", long + "a", long + "0", long + "_", long + " ", strings.Repeat("a", 1<<20), " a", "a ", "a b", "\na", "a\n", "a//", "//a", "a-b", "a.b", "->", "é", "aé", "\u0661", "a\u0661", "ﬁ", "a\x00", "\x00", "\xff"} {
		checkName(t, s, false)
	}
}

// P4.2: a keyword is no name; with anything more it is one.
func TestNameOfKeywords(t *testing.T) {
	for _, w := range referenceWords {
		checkName(t, w, false)
		checkName(t, w+"_", true)
		checkName(t, w+"2", true)
		checkName(t, "x"+w, true)
		checkName(t, strings.ToUpper(w), true)
		checkName(t, w+" ", false)
		checkName(t, " "+w, false)
	}
}

// P4.2: each byte at the front, behind a letter, and behind a name that is as long as may be.
func TestNameOfEachByte(t *testing.T) {
	letters := "ABCDEFGHIJKLMNOPQRSTUVWXYZabcdefghijklmnopqrstuvwxyz_"
	for i := range 256 {
		s := string([]byte{byte(i)})
		checkName(t, s, strings.Contains(letters, s))
		checkName(t, "q"+s, strings.Contains(letters+"0123456789", s))
		checkName(t, "q"+s+"q", strings.Contains(letters+"0123456789", s))
		checkName(t, strings.Repeat("q", api.MaxName-1)+s, strings.Contains(letters+"0123456789", s))
		checkName(t, strings.Repeat("q", api.MaxName)+s, false)
	}
}

// P4.2: a name is what scans to one token of the kind TokName that is all of the source.
func TestNameAsToken(t *testing.T) {
	r := rand.New(rand.NewSource(8))
	for range 20000 {
		s := anySource(r, 1+r.Intn(3))
		want := namePattern.MatchString(s) && !slices.Contains(referenceWords, s)
		checkName(t, s, want)
		l, _ := scan.Tokens(s)
		if one := len(l) == 2 && l[0] == name(0, s); one != want {
			t.Errorf("Tokens(%q): %v; a name: %v", s, l, want)
		}
	}
}

// P4.2: the keywords of the chapter, in ascending order.
func TestWords(t *testing.T) {
	got := scan.Words()
	if !slices.Equal(got, referenceWords) {
		t.Errorf("Words: %q; want %q", got, referenceWords)
	}
	if !slices.IsSorted(got) || len(slices.Compact(got)) != 16 {
		t.Errorf("Words are not 16 in ascending order: %q", got)
	}
}
