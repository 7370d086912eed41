package expr

import "pavane/api"

// parser parses an expression from tokens; level is how many levels are around the place.
type parser struct {
	cursor
	level int
}

// rule parses what a line of the grammar stands for.
type rule func() (api.Expr, api.Fault)

// expression parses by the lines of the grammar, of which each has the next one for its operands.
func (p *parser) expression() (api.Expr, api.Fault) {
	product := p.line(p.one, api.OpMul, api.OpDiv, api.OpMod)
	sum := p.line(product, api.OpAdd, api.OpSub)
	order := p.line(sum, api.OpLt, api.OpLe, api.OpGt, api.OpGe)
	equal := p.line(order, api.OpEq, api.OpNe)
	and := p.line(equal, api.OpAnd)
	or := p.line(and, api.OpOr)
	return or()
}

// line is the rule of operands with any of these operators between them, the first of which is the innermost.
func (p *parser) line(operand rule, ops ...int) rule {
	return func() (api.Expr, api.Fault) {
		x, fault := operand()
		for fault.Code == api.OK {
			op := p.takeOperator(ops...)
			if op == 0 {
				return x, api.Fault{}
			}
			var y api.Expr
			y, fault = operand()
			x = api.Expr{Kind: api.ExprBoth, Op: op, Subs: []api.Expr{x, y}, At: x.At}
		}
		return api.Expr{}, fault
	}
}

// takeOperator takes one of these operators, if it stands at the place, and tells which one; 0 if none does.
func (p *parser) takeOperator(ops ...int) int {
	for _, op := range ops {
		if p.beginsWith(api.TokSign, signs[op]) {
			p.advance()
			return op
		}
	}
	return 0
}

// one parses the last line of the grammar.
func (p *parser) one() (api.Expr, api.Fault) {
	switch {
	case isInt(p.now()):
		return p.integer(), api.Fault{}
	case p.beginsWith(api.TokWord, "in"):
		return p.in()
	case p.beginsWith(api.TokSign, "("):
		return p.enclosed()
	case p.beginsWith(api.TokSign, signs[api.OpNeg]):
		return p.unary(api.OpNeg)
	case p.beginsWith(api.TokSign, signs[api.OpNot]):
		return p.unary(api.OpNot)
	}
	return p.variable()
}

func (p *parser) integer() api.Expr {
	t := p.now()
	p.advance()
	return api.Expr{Kind: api.ExprInt, Num: t.Num, At: t.At}
}

func (p *parser) variable() (api.Expr, api.Fault) {
	at := p.now().At
	name, fault := p.needName()
	if fault.Code != api.OK {
		return api.Expr{}, fault
	}
	return api.Expr{Kind: api.ExprVar, Name: name, At: at}, api.Fault{}
}

// in parses from the keyword on.
func (p *parser) in() (api.Expr, api.Fault) {
	at := p.now().At
	p.advance()
	fault := p.needSign("(")
	if fault.Code != api.OK {
		return api.Expr{}, fault
	}
	name, fault := p.needName()
	if fault.Code != api.OK {
		return api.Expr{}, fault
	}
	if fault = p.needSign(")"); fault.Code != api.OK {
		return api.Expr{}, fault
	}
	return api.Expr{Kind: api.ExprIn, Name: name, At: at}, api.Fault{}
}

// enclosed parses from the parenthesis on, which leaves no trace in the tree.
func (p *parser) enclosed() (api.Expr, api.Fault) {
	x, fault := p.nested(p.expression)
	if fault.Code == api.OK {
		fault = p.needSign(")")
	}
	if fault.Code != api.OK {
		return api.Expr{}, fault
	}
	return x, api.Fault{}
}

// unary parses from the sign on.
func (p *parser) unary(op int) (api.Expr, api.Fault) {
	at := p.now().At
	x, fault := p.nested(p.one)
	if fault.Code != api.OK {
		return api.Expr{}, fault
	}
	return api.Expr{Kind: api.ExprOne, Op: op, Subs: []api.Expr{x}, At: at}, api.Fault{}
}

// nested takes the token at the place, which adds a level, and parses by the rule within that level.
func (p *parser) nested(r rule) (api.Expr, api.Fault) {
	if p.level == api.MaxNest {
		return api.Expr{}, p.fault(api.ErrNest)
	}
	p.advance()
	p.level++
	x, fault := r()
	p.level--
	return x, fault
}
