package expr

import (
	"strings"

	"pavane/api"
	"pavane/scan"
)

// cursor is a place among tokens, of which the last one is the end. It never passes over the end, since what it takes are other tokens.
type cursor struct {
	tokens []api.Token
	at     int
}

func (c *cursor) now() api.Token { return c.tokens[c.at] }

func (c *cursor) advance() { c.at++ }

func (c *cursor) fault(code api.Errno) api.Fault {
	return api.Fault{Code: code, At: c.now().At}
}

// unfit is the fault of a token that cannot occur at the place.
func (c *cursor) unfit() api.Fault {
	if isEnd(c.now()) {
		return c.fault(api.ErrEnd)
	}
	return c.fault(api.ErrForm)
}

func (c *cursor) beginsWith(kind int, text string) bool {
	t := c.now()
	return t.Kind == kind && t.Text == text
}

// needSign takes a sign that must stand at the place.
func (c *cursor) needSign(text string) api.Fault {
	if !c.beginsWith(api.TokSign, text) {
		return c.unfit()
	}
	c.advance()
	return api.Fault{}
}

// needName takes a name that must stand at the place. Its text is copied, as it may lie in memory of the caller's.
func (c *cursor) needName() (string, api.Fault) {
	t := c.now()
	if !isName(t) {
		return "", c.unfit()
	}
	c.advance()
	return strings.Clone(t.Text), api.Fault{}
}

func isEnd(t api.Token) bool { return t.Kind == api.TokEnd }

// isName also asks for the text, since tokens need not come from scan.
func isName(t api.Token) bool { return t.Kind == api.TokName && scan.Name(t.Text) }

// isInt also asks for the number, since tokens need not come from scan.
func isInt(t api.Token) bool { return t.Kind == api.TokInt && t.Num >= 0 }
