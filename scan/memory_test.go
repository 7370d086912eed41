package scan_test

import (
	"slices"
	"sync"
	"testing"
	"unsafe"

	"pavane/api"
	"pavane/scan"
)

const memorySource = "chart c { state a { on go [n >= 10] -> b; } } // end"

// scribble writes over all that a slice holds, its spare capacity too.
func scribble[E any](s []E, with E) {
	s = s[:cap(s)]
	for i := range s {
		s[i] = with
	}
}

// P4.3: tokens share memory with no others, earlier or later.
func TestTokensAreFresh(t *testing.T) {
	first, _ := scan.Tokens(memorySource)
	kept := slices.Clone(first)
	for range 3 {
		l, _ := scan.Tokens(memorySource)
		if !slices.Equal(l, kept) {
			t.Fatalf("Tokens: %v; want %v", l, kept)
		}
		scribble(l, api.Token{Kind: -1, Text: "x", Num: 7, At: 9})
		if !slices.Equal(first, kept) {
			t.Fatal("tokens change as others are written over")
		}
	}
}

// P4.3: the keywords share memory with no others, and are right though they were written over.
func TestWordsAreFresh(t *testing.T) {
	first := scan.Words()
	for range 3 {
		l := scan.Words()
		scribble(l, "on")
		if !slices.Equal(first, referenceWords) || !slices.Equal(scan.Words(), referenceWords) {
			t.Fatal("the keywords change as they are written over")
		}
	}
	scribble(first, "go")
	if scan.Name("state") || !scan.Name("go") {
		t.Error("Name goes by keywords that were handed out")
	}
	if l, _ := scan.Tokens("state go"); !slices.Equal(l, []api.Token{word(0, "state"), name(6, "go"), end(8)}) {
		t.Errorf("Tokens go by keywords that were handed out: %v", l)
	}
}

// P4.3: no token's text lies in the source's memory.
func TestTextsAreFresh(t *testing.T) {
	bytes := []byte(memorySource)
	l, _ := scan.Tokens(unsafe.String(&bytes[0], len(bytes)))
	scribble(bytes, '$')
	want, fault := reference(memorySource)
	if fault.Code != api.OK || !slices.Equal(l, want) {
		t.Errorf("the tokens change with the source's memory: %v; want %v", l, want)
	}
}

// P4.3: calls at the same time do not touch each other's results.
func TestTokensAtOnce(t *testing.T) {
	want, _ := reference(memorySource)
	var all sync.WaitGroup
	for range 8 {
		all.Go(func() {
			for range 200 {
				l, f := scan.Tokens(memorySource)
				if f != (api.Fault{}) || !slices.Equal(l, want) || !slices.Equal(scan.Words(), referenceWords) {
					t.Error("a call is disturbed by others")
				}
				scribble(l, api.Token{})
				scribble(scan.Words(), "")
			}
		})
	}
	all.Wait()
}
