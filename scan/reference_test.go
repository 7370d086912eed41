package scan_test

import (
	"math/big"
	"math/rand"
	"regexp"
	"slices"
	"strings"

	"pavane/api"
)

// The reference takes tokens by patterns, and numbers of any size; it shares nothing with the package.

var (
	spacePattern  = regexp.MustCompile(`^(?:[\x09\x0a\x0d\x20]|//[^\n]*)*`)
	runPattern    = regexp.MustCompile(`^[A-Za-z_][A-Za-z_0-9]*`)
	digitsPattern = regexp.MustCompile(`^[0-9]+`)
	signPattern   = regexp.MustCompile(`^(?:->|<=|>=|==|!=|&&|\|\||[{}()\[\];,=+\-*/%<>!])`)
	namePattern   = regexp.MustCompile(`\A[A-Za-z_][A-Za-z_0-9]{0,23}\z`)
)

var referenceWords = strings.Fields("after always chart deep emit enter history in initial leave on parallel raise set state var")

func reference(s string) ([]api.Token, api.Fault) {
	if len(s) > 16384 {
		return nil, api.Fault{Code: api.ErrLong, At: -1}
	}
	var l []api.Token
	at := 0
	for {
		at += len(spacePattern.FindString(s[at:]))
		if at == len(s) {
			return append(l, api.Token{Kind: api.TokEnd, At: at}), api.Fault{}
		}
		token, size, code := referenceToken(s[at:])
		if code != api.OK {
			return nil, api.Fault{Code: code, At: at}
		}
		token.At = at
		l = append(l, token)
		at += size
	}
}

func referenceToken(s string) (api.Token, int, api.Errno) {
	if run := runPattern.FindString(s); run != "" {
		switch {
		case len(run) > 24:
			return api.Token{}, 0, api.ErrLong
		case slices.Contains(referenceWords, run):
			return api.Token{Kind: api.TokWord, Text: run}, len(run), api.OK
		}
		return api.Token{Kind: api.TokName, Text: run}, len(run), api.OK
	}
	if digits := digitsPattern.FindString(s); digits != "" {
		n, _ := new(big.Int).SetString(digits, 10)
		switch {
		case len(digits) > 1 && digits[0] == '0':
			return api.Token{}, 0, api.ErrForm
		case !n.IsInt64():
			return api.Token{}, 0, api.ErrNum
		case runPattern.MatchString(s[len(digits):]):
			return api.Token{}, 0, api.ErrForm
		}
		return api.Token{Kind: api.TokInt, Num: int(n.Int64())}, len(digits), api.OK
	}
	if sign := signPattern.FindString(s); sign != "" {
		return api.Token{Kind: api.TokSign, Text: sign}, len(sign), api.OK
	}
	return api.Token{}, 0, api.ErrForm
}

// anyPiece is a piece of a source: most pieces are right alone, and fewer where they touch others.
func anyPiece(r *rand.Rand) string {
	switch r.Intn(40) {
	case 0:
		return string([]byte{byte(r.Intn(256))})
	case 1:
		return []string{"01", "00", "9223372036854775808", "7x", "&", "|", "é"}[r.Intn(7)]
	case 2:
		return strings.Repeat([]string{"a", "_", "Z9", "in"}[r.Intn(4)], 1+r.Intn(25))
	case 3:
		return []string{"0", "1", "9223372036854775807", "4096"}[r.Intn(4)]
	case 4, 5, 6:
		return "//" + []string{"", " 1 $", "\r", "/x"}[r.Intn(4)] + "\n"
	case 7, 8, 9, 10, 11, 12:
		return referenceWords[r.Intn(len(referenceWords))]
	case 13, 14, 15, 16:
		return []string{"a", "b1", "_", "x", "goes", "ON"}[r.Intn(6)]
	case 17, 18:
		return []string{" 7 ", " 100 ", " 0 ", "\n9223372036854775807\n"}[r.Intn(4)]
	case 19, 20, 21, 22, 23, 24:
		return []string{" ", "\t", "\r", "\n"}[r.Intn(4)]
	}
	return signs[r.Intn(len(signs))]
}

func anySource(r *rand.Rand, pieces int) string {
	var b strings.Builder
	for range pieces {
		b.WriteString(anyPiece(r))
	}
	return b.String()
}

// rightSource is a source without an error.
func rightSource(r *rand.Rand, pieces int) string {
	for {
		s := anySource(r, pieces)
		if _, f := reference(s); f.Code == api.OK {
			return s
		}
	}
}
