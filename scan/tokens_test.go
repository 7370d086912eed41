package scan_test

import (
	"math/rand"
	"slices"
	"strings"
	"testing"

	"pavane/api"
	"pavane/scan"
)

// signs are all signs of the chapter.
var signs = strings.Fields("{ } ( ) [ ] ; , -> = + - * / % < <= > >= == != && || !")

func name(at int, text string) api.Token { return api.Token{Kind: api.TokName, At: at, Text: text} }
func word(at int, text string) api.Token { return api.Token{Kind: api.TokWord, At: at, Text: text} }
func sign(at int, text string) api.Token { return api.Token{Kind: api.TokSign, At: at, Text: text} }
func number(at, n int) api.Token         { return api.Token{Kind: api.TokInt, At: at, Num: n} }
func end(at int) api.Token               { return api.Token{Kind: api.TokEnd, At: at} }

// start is what a message shows of a source.
func start(s string) string { return s[:min(len(s), 60)] }

func checkTokens(t *testing.T, s string, want ...api.Token) {
	t.Helper()
	if l, f := scan.Tokens(s); f != (api.Fault{}) || !slices.Equal(l, want) {
		t.Errorf("Tokens of %d bytes %q: %v, %v; want %v", len(s), start(s), l[:min(len(l), 40)], f, want[:min(len(want), 40)])
	}
}

// checkTexts holds the texts of names, keywords and signs, without the end.
func checkTexts(t *testing.T, s string, want ...string) {
	t.Helper()
	l, f := scan.Tokens(s)
	var texts []string
	for _, x := range l {
		if x.Kind != api.TokEnd {
			texts = append(texts, x.Text)
		}
	}
	if f != (api.Fault{}) || !slices.Equal(texts, want) {
		t.Errorf("Tokens(%q): %q, %v; want %q", s, texts, f, want)
	}
}

func checkFault(t *testing.T, s string, code api.Errno, at int) {
	t.Helper()
	if l, f := scan.Tokens(s); f != (api.Fault{Code: code, At: at}) || len(l) != 0 {
		t.Errorf("Tokens of %d bytes %q: %d tokens, %v; want none, {%d %d}", len(s), start(s), len(l), f, code, at)
	}
}

// P4.1: the document's examples.
func TestTokensExamples(t *testing.T) {
	checkTokens(t, "set x1=-20; // end", word(0, "set"), name(4, "x1"), sign(6, "="), sign(7, "-"), number(8, 20), sign(10, ";"), end(18))
	checkTokens(t, "a<=b->c", name(0, "a"), sign(1, "<="), name(3, "b"), sign(4, "->"), name(6, "c"), end(7))
	checkFault(t, "a $", api.ErrForm, 2)
	checkFault(t, "01", api.ErrForm, 0)
	checkFault(t, "1a", api.ErrForm, 0)
	checkFault(t, "9223372036854775808", api.ErrNum, 0)
	checkFault(t, "&", api.ErrForm, 0)
}

// P4.1: a source without a token has its end alone.
func TestTokensOfNothing(t *testing.T) {
	for _, s := range []string{"", " ", "\n", "\t\r\n ", "//", "//\n", "// a { 1 $", "// a\n// b\n", " //", "\n\n//\r", strings.Repeat(" ", api.MaxSource), "//" + strings.Repeat("$", api.MaxSource-2)} {
		checkTokens(t, s, end(len(s)))
	}
}

// P4.1: a chart, token by token.
func TestTokensOfChart(t *testing.T) {
	checkTokens(t, "chart c {\n\tvar n = 0; // so many\n\tinitial a;\r\n}",
		word(0, "chart"), name(6, "c"), sign(8, "{"),
		word(11, "var"), name(15, "n"), sign(17, "="), number(19, 0), sign(20, ";"),
		word(34, "initial"), name(42, "a"), sign(43, ";"), sign(46, "}"), end(47))
	checkTexts(t, "state a{on go[n%2!=0&&!in(b)||n>=-3]{emit e=n*(n+1)/2;}->b,c;}",
		"state", "a", "{", "on", "go", "[", "n", "%", "", "!=", "", "&&", "!", "in", "(", "b", ")", "||", "n", ">=", "-", "", "]",
		"{", "emit", "e", "=", "n", "*", "(", "n", "+", "", ")", "/", "", ";", "}", "->", "b", ",", "c", ";", "}")
}

// P4.1: each keyword is one, and with anything more or less, or in other letters, a name.
func TestTokensOfKeywords(t *testing.T) {
	for _, w := range scan.Words() {
		checkTokens(t, w, word(0, w), end(len(w)))
		checkTokens(t, " "+w+"+"+w, word(1, w), sign(1+len(w), "+"), word(2+len(w), w), end(2+2*len(w)))
		for _, s := range []string{w + "s", w + "_", w + "0", "_" + w, "x" + w, w + w, strings.ToUpper(w), strings.ToUpper(w[:1]) + w[1:], w[1:], w[:len(w)-1]} {
			checkTokens(t, s, name(0, s), end(len(s)))
		}
	}
}

// P4.1: names of all letters and digits, up to the longest.
func TestTokensOfNames(t *testing.T) {
	for _, s := range []string{"a", "z", "A", "Z", "_", "__", "_1", "a1", "A_b_9", "x0", "e1", "inn", "In", "on_", strings.Repeat("a", api.MaxName), strings.Repeat("_", api.MaxName), "a" + strings.Repeat("9", api.MaxName-1)} {
		checkTokens(t, s, name(0, s), end(len(s)))
		checkTokens(t, s+" "+s, name(0, s), name(len(s)+1, s), end(2*len(s)+1))
		checkTokens(t, s+"//"+s, name(0, s), end(2*len(s)+2))
	}
	letters := "ABCDEFGHIJKLMNOPQRSTUVWXYZabcdefghijklmnopqrstuvwxyz_"
	for i := range letters {
		s := letters[i : i+1]
		checkTokens(t, s+"0123456789"+s, name(0, s+"0123456789"+s), end(12))
	}
}

// P4.1: a run of letters and digits beyond the longest; it counts as a whole, whatever it begins with.
func TestTokensOfLongNames(t *testing.T) {
	long := strings.Repeat("a", api.MaxName)
	for _, s := range []string{long + "a", long + "0", long + "_", "_" + strings.Repeat("1", api.MaxName), "state" + long, strings.Repeat("state", 5), strings.Repeat("x", api.MaxSource)} {
		checkFault(t, s, api.ErrLong, 0)
	}
	checkFault(t, " a "+long+"a $", api.ErrLong, 3)
	checkFault(t, "$ "+long+"a", api.ErrForm, 0)
	checkTokens(t, long+"-"+long, name(0, long), sign(24, "-"), name(25, long), end(49))
}

// P4.1: integers up to the greatest, and what may stand behind them.
func TestTokensOfIntegers(t *testing.T) {
	checkTokens(t, "0", number(0, 0), end(1))
	checkTokens(t, "0 0", number(0, 0), number(2, 0), end(3))
	checkTokens(t, "7+10", number(0, 7), sign(1, "+"), number(2, 10), end(4))
	checkTokens(t, "-1", sign(0, "-"), number(1, 1), end(2))
	checkTokens(t, "9223372036854775807", number(0, api.MaxInt), end(19))
	checkTokens(t, "(9223372036854775807)", sign(0, "("), number(1, api.MaxInt), sign(20, ")"), end(21))
	checkTokens(t, "1//2", number(0, 1), end(4))
	checkTokens(t, "a 1", name(0, "a"), number(2, 1), end(3))
	for _, s := range signs {
		checkTokens(t, "12"+s+"3", number(0, 12), sign(2, s), number(2+len(s), 3), end(3+len(s)))
	}
}

// P4.1: integers that may not be: a 0 in front, too great, a letter behind.
func TestTokensOfWrongIntegers(t *testing.T) {
	for _, s := range []string{"00", "01", "007", "00a", "0123x", "0" + strings.Repeat("9", 30), "09223372036854775808a"} {
		checkFault(t, s, api.ErrForm, 0)
		checkFault(t, "x = "+s+";", api.ErrForm, 4)
	}
	for _, s := range []string{"9223372036854775808", "9999999999999999999", "10000000000000000000", "18446744073709551616", "18446744073709551617", strings.Repeat("9", 400), "1" + strings.Repeat("0", api.MaxSource-10)} {
		checkFault(t, s, api.ErrNum, 0)
		checkFault(t, "x = "+s+";", api.ErrNum, 4)
	}
	for _, s := range []string{"1a", "0x1", "0a", "0_", "1_000", "9223372036854775807e", "12Z", "5in"} {
		checkFault(t, s, api.ErrForm, 0)
		checkFault(t, "x = "+s+";", api.ErrForm, 4)
	}
}

// P4.1: a number that is too great comes ahead of the letter behind it.
func TestTokensOfGreatIntegersWithLetter(t *testing.T) {
	for _, s := range []string{"9223372036854775808a", "99999999999999999999_", strings.Repeat("9", 100) + "state"} {
		checkFault(t, s, api.ErrNum, 0)
		checkFault(t, "n - "+s, api.ErrNum, 4)
	}
}

// P4.1: each sign alone, and each two and three of them behind each other, as long as possible.
func TestTokensOfSigns(t *testing.T) {
	for _, a := range signs {
		checkTokens(t, a, sign(0, a), end(len(a)))
		checkTokens(t, "x"+a+"y", name(0, "x"), sign(1, a), name(1+len(a), "y"), end(2+len(a)))
		for _, b := range signs {
			checkTokens(t, a+" "+b, sign(0, a), sign(len(a)+1, b), end(len(a)+1+len(b)))
			if slices.Contains(signs, a+b) {
				checkTokens(t, a+b, sign(0, a+b), end(2))
			}
			for _, c := range append([]string{""}, signs...) {
				want, _ := reference(a + b + c)
				checkTokens(t, a+b+c, want...)
			}
		}
	}
}

// P4.1: rows of signs are split from left to right, each as long as possible.
func TestTokensOfSignRows(t *testing.T) {
	checkTexts(t, "-->", "-", "->")
	checkTexts(t, "->>=", "->", ">=")
	checkTexts(t, "->=", "->", "=")
	checkTexts(t, "<->", "<", "->")
	checkTexts(t, "<-", "<", "-")
	checkTexts(t, "<==", "<=", "=")
	checkTexts(t, "===", "==", "=")
	checkTexts(t, "====", "==", "==")
	checkTexts(t, "=>=", "=", ">=")
	checkTexts(t, "=<", "=", "<")
	checkTexts(t, "=!", "=", "!")
	checkTexts(t, "!==", "!=", "=")
	checkTexts(t, "!!=", "!", "!=")
	checkTexts(t, "<>", "<", ">")
	checkTexts(t, "<<=", "<", "<=")
	checkTexts(t, "++--", "+", "+", "-", "-")
	checkTexts(t, "+=-=*=/=%=", "+", "=", "-", "=", "*", "=", "/", "=", "%", "=")
	checkTexts(t, "&&&&||||", "&&", "&&", "||", "||")
	checkTexts(t, "*/", "*", "/")
	checkTexts(t, "/*", "/", "*")
	checkTexts(t, "/ /", "/", "/")
	checkTexts(t, "/\n/", "/", "/")
	checkTexts(t, "- >", "-", ">")
	checkTexts(t, "! =", "!", "=")
	checkTexts(t, "{}()[];,", "{", "}", "(", ")", "[", "]", ";", ",")
}

// P4.1: half of a sign is none, also behind a whole one.
func TestTokensOfHalfSigns(t *testing.T) {
	for _, s := range []string{"&", "|", "& &", "| |", "&|", "|&", "&=", "|=", "&\n&", "&//&"} {
		checkFault(t, s, api.ErrForm, 0)
	}
	checkFault(t, "&&&", api.ErrForm, 2)
	checkFault(t, "|||", api.ErrForm, 2)
	checkFault(t, "a && b & c", api.ErrForm, 7)
	checkFault(t, "a ||b|", api.ErrForm, 5)
}

// P4.1: the bytes with which no token begins, wherever they stand; white space is four bytes and no others.
func TestTokensOfOtherBytes(t *testing.T) {
	begin := "ABCDEFGHIJKLMNOPQRSTUVWXYZabcdefghijklmnopqrstuvwxyz_0123456789{}()[];,-=+*/%<>!\t\n\r "
	for i := range 256 {
		s := string([]byte{byte(i)})
		if strings.Contains(begin, s) {
			if _, f := scan.Tokens(s); f != (api.Fault{}) {
				t.Errorf("Tokens(%q): %v", s, f)
			}
			continue
		}
		checkFault(t, s, api.ErrForm, 0)
		checkFault(t, "ab"+s, api.ErrForm, 2)
		checkFault(t, "12"+s, api.ErrForm, 2)
		checkFault(t, "-"+s, api.ErrForm, 1)
		checkFault(t, "// "+s+"\n "+s, api.ErrForm, 6)
		checkTokens(t, "//"+s+"\n;", sign(4, ";"), end(5))
	}
	for _, s := range []string{"é", "€", "😀", "\u00a0", "\u2028", "\u0661", "\uff41", "ﬁ", "\ufeff"} {
		checkFault(t, s, api.ErrForm, 0)
		checkFault(t, "x"+s, api.ErrForm, 1)
		checkTokens(t, "x//"+s, name(0, "x"), end(3+len(s)))
	}
}

// P4.1: white space parts tokens; a comment goes up to the next byte 10, and no other byte ends it.
func TestTokensWhiteSpace(t *testing.T) {
	for _, space := range []string{" ", "\t", "\n", "\r", "\r\n", "  \t\n", "//\n", "// b\n", "//\r\n", "// x\ry\n", "////\n", "//a\n//b\n", " //\x00\xff$\n\t", "/////* */\n"} {
		checkTokens(t, "a"+space+"b", name(0, "a"), name(1+len(space), "b"), end(2+len(space)))
		checkTokens(t, space+"1"+space, number(len(space), 1), end(1+2*len(space)))
		checkTokens(t, "-"+space+">", sign(0, "-"), sign(1+len(space), ">"), end(2+len(space)))
		checkTokens(t, "1"+space+"a", number(0, 1), name(1+len(space), "a"), end(2+len(space)))
		checkTokens(t, "0"+space+"0", number(0, 0), number(1+len(space), 0), end(2+len(space)))
	}
	checkTokens(t, "a // b\rc", name(0, "a"), end(8))
	checkTokens(t, "a//", name(0, "a"), end(3))
	checkTokens(t, "a///b\n/c", name(0, "a"), sign(6, "/"), name(7, "c"), end(8))
	checkTokens(t, "a/// /\n//\nb", name(0, "a"), name(10, "b"), end(11))
}

// P4.1: the first error from left to right is told, though a worse one follows.
func TestTokensFirstFault(t *testing.T) {
	long := strings.Repeat("n", api.MaxName+1)
	wrong := []struct {
		text string
		code api.Errno
	}{{"$", api.ErrForm}, {"01", api.ErrForm}, {long, api.ErrLong}, {"9223372036854775808", api.ErrNum}, {"3x", api.ErrForm}, {"&", api.ErrForm}}
	for _, a := range wrong {
		for _, b := range wrong {
			checkFault(t, a.text+" "+b.text, a.code, 0)
			checkFault(t, "on go // $ 01\n"+a.text+" ;\n"+b.text, a.code, 14)
		}
	}
}

// P4.1: a source of the greatest length, and one byte more, whatever is in it.
func TestTokensLength(t *testing.T) {
	for _, unit := range []string{" ", ";", "a ", "\n", "12,", "->"} {
		s := strings.Repeat(unit, api.MaxSource)[:api.MaxSource]
		if l, f := scan.Tokens(s); f != (api.Fault{}) || len(l) == 0 || l[len(l)-1] != end(api.MaxSource) {
			t.Errorf("Tokens of %d bytes %q: %d tokens, %v", len(s), start(s), len(l), f)
		}
	}
	if l, _ := scan.Tokens(strings.Repeat("(", api.MaxSource)); len(l) != api.MaxSource+1 {
		t.Errorf("a source of signs has %d tokens", len(l))
	}
	checkFault(t, strings.Repeat(" ", api.MaxSource-1)+"$", api.ErrForm, api.MaxSource-1)
	for _, n := range []int{api.MaxSource + 1, api.MaxSource + 2, 2 * api.MaxSource, 1 << 20} {
		checkFault(t, strings.Repeat(" ", n), api.ErrLong, -1)
		checkFault(t, strings.Repeat("a", n), api.ErrLong, -1)
		checkFault(t, "$"+strings.Repeat("9", n-1), api.ErrLong, -1)
		checkFault(t, "//"+strings.Repeat("x", n-2), api.ErrLong, -1)
	}
}

// P4.1: sources of all kinds, against the reference.
func TestTokensAgainstReference(t *testing.T) {
	r := rand.New(rand.NewSource(7))
	right := 0
	for range 40000 {
		s := anySource(r, 1+r.Intn(12))
		want, fault := reference(s)
		l, f := scan.Tokens(s)
		if f != fault || !slices.Equal(l, want) {
			t.Fatalf("Tokens(%q): %v, %v; want %v, %v", s, l, f, want, fault)
		}
		if f.Code == api.OK {
			right++
		}
	}
	if right < 10000 || right > 35000 {
		t.Errorf("%d of the sources are right", right)
	}
}
