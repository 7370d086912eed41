package syntax

import (
	"slices"

	"pavane/api"
)

// cursor is a place among the tokens of a source, of which the last one is the end. The first fault stays, and from then on the cursor takes nothing and nothing begins at its place, so that a parser comes to its end without asking after each token.
type cursor struct {
	tokens []api.Token
	at     int
	fault  api.Fault
}

func (c *cursor) now() api.Token { return c.tokens[c.at] }

func (c *cursor) failed() bool { return c.fault.Code != api.OK }

// fail records a fault at a token, unless there is one already.
func (c *cursor) fail(code api.Errno, t api.Token) {
	if !c.failed() {
		c.fault = api.Fault{Code: code, At: t.At}
	}
}

// unfit records that the token at the place cannot occur there.
func (c *cursor) unfit() {
	code := api.ErrForm
	if c.now().Kind == api.TokEnd {
		code = api.ErrEnd
	}
	c.fail(code, c.now())
}

// begins reports whether one of these keywords and signs stands at the place. Its text tells, since names differ from both and other tokens have none.
func (c *cursor) begins(texts ...string) bool {
	return !c.failed() && slices.Contains(texts, c.now().Text)
}

// take takes the token at the place, which is not the end.
func (c *cursor) take() api.Token {
	t := c.now()
	if !c.failed() {
		c.at++
	}
	return t
}

// need takes a keyword or sign that must stand at the place.
func (c *cursor) need(text string) {
	if !c.begins(text) {
		c.unfit()
	}
	c.take()
}

// skip takes a keyword or sign if it stands at the place, and reports whether it does.
func (c *cursor) skip(text string) bool {
	found := c.begins(text)
	if found {
		c.take()
	}
	return found
}

func (c *cursor) name() api.Token { return c.kind(api.TokName) }

func (c *cursor) integer() int { return c.kind(api.TokInt).Num }

// kind takes a token of a kind other than the end, which must stand at the place.
func (c *cursor) kind(kind int) api.Token {
	if c.now().Kind != kind {
		c.unfit()
	}
	return c.take()
}

// each parses by the rule for as long as one of these keywords and signs stands at the place.
func (c *cursor) each(rule func(), texts ...string) {
	for c.begins(texts...) {
		rule()
	}
}

// enclosed parses by the rule between braces.
func (c *cursor) enclosed(rule func()) {
	c.need("{")
	rule()
	c.need("}")
}
