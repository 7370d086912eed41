package printer_test

import (
	"math/rand"
	"strings"
	"testing"

	"pavane/api"
	"pavane/printer"
	"pavane/syntax"
)

// P8.3: parsing the formatted lines of a tree yields the tree, but for offsets.
func TestParseInvertsPrint(t *testing.T) {
	r := rand.New(rand.NewSource(31))
	for range 800 {
		c := anyChart(r, r.Intn(5))
		setAts(&c, r.Int)
		s, code := printer.Print(c)
		if code == api.ErrLong {
			continue
		}
		if d := placeless(parsed(t, s)); code != api.OK || shown(d) != shown(placeless(c)) {
			t.Fatalf("%q is %s, %d; want %s", short(s), short(shown(d)), code, short(shown(placeless(c))))
		}
	}
}

// respaced is a source of the same tokens with something else for each space and end of a line.
func respaced(r *rand.Rand, s string) string {
	var b strings.Builder
	for _, c := range s {
		if c == ' ' || c == '\n' {
			b.WriteString([]string{" ", "\n", "\t", "  ", " //}\n", "\r\n"}[r.Intn(6)])
		} else {
			b.WriteRune(c)
		}
	}
	return b.String()
}

// P8.3: what parses is a tree, unless its lines are too long, and formatting, parsing and formatting it again changes nothing.
func TestPrintOfParsed(t *testing.T) {
	r := rand.New(rand.NewSource(32))
	for range 800 {
		source := respaced(r, reference(anyChart(r, r.Intn(4))))
		if len(source) > api.MaxSource {
			continue
		}
		c := parsed(t, source)
		s, code := printer.Print(c)
		if again, code2 := printer.Print(parsed(t, s)); code != api.OK || code2 != api.OK || again != s {
			t.Fatalf("%q becomes %q, %d, and then %q, %d", short(source), short(s), code, short(again), code2)
		}
	}
}

// P8.3: so it is with each source that parses, among those that have a part missing or twice.
func TestPrintOfWhateverParses(t *testing.T) {
	r := rand.New(rand.NewSource(33))
	many := 0
	for range 20000 {
		l := strings.SplitAfter(allLines, " ")
		for range 1 + r.Intn(2) {
			i, j := r.Intn(len(l)), r.Intn(len(l))
			l[i] = []string{"", l[i] + l[i], l[j]}[r.Intn(3)]
		}
		c, f := syntax.Parse(strings.Join(l, ""))
		if f != (api.Fault{}) {
			continue
		}
		many++
		checkPrint(t, c, reference(c))
		s, _ := printer.Print(c)
		if d := parsed(t, s); shown(placeless(d)) != shown(placeless(c)) {
			t.Fatalf("%q is %s; want %s", s, shown(d), shown(c))
		}
	}
	if many < 500 {
		t.Errorf("only %d sources parse", many)
	}
}

// P8.3: sources that are dense parse to charts whose lines are too long; with an expression alone that is too long, to no tree.
func TestParsedThatIsTooLong(t *testing.T) {
	dense := "chart c{" + strings.Repeat("always;", 200) + strings.Repeat("state s{", 10) + "enter{" + strings.Repeat("set a=a+b+c+d+e+f+g+h+i+j;", 400) + "}" + strings.Repeat("}", 11)
	checkError(t, parsed(t, dense), api.ErrLong)
	sum := strings.Repeat("a+", 5000) + "a"
	checkError(t, parsed(t, "chart c{always["+sum+"];}"), api.ErrTree)
	checkError(t, parsed(t, "chart c{enter{set a="+sum+";}}"), api.ErrTree)
	sum = sum[:2*4000+1]
	checkError(t, parsed(t, "chart c{always["+sum+"];enter{set a="+strings.Repeat("b-", 300)+"b;}}"), api.ErrLong)
}

// P8.3: empty blocks leave no trace.
func TestPrintOfEmptyBlocks(t *testing.T) {
	checkPrint(t, parsed(t, "chart c { enter { } leave { } on x { } ; always [a] { } -> c; }"), "chart c {\n  on x;\n  always [a] -> c;\n}\n")
}

// P8.1: each move of a chart has the line that it has there.
func TestMovesOfCharts(t *testing.T) {
	r := rand.New(rand.NewSource(34))
	for range 200 {
		c := anyChart(r, r.Intn(4))
		s, code := printer.Print(c)
		if code != api.OK {
			continue
		}
		lines := map[string]bool{}
		for _, line := range strings.Split(s, "\n") {
			lines[strings.TrimLeft(line, " ")] = true
		}
		for _, m := range partsOf(&c).moves {
			if line := printer.Move(*m); line == "" || !lines[line] {
				t.Fatalf("%q is no line of %q", line, short(s))
			}
		}
	}
}
