package parser

import (
	"strconv"

	"arenanet/api"
)

// Print returns the canonical source of a rule program.
func Print(r api.Rules) string {
	var p printer
	for number, block := range r.On {
		if block.Kind != 0 && isSmall(block) {
			p.put("on", handlers[number])
			p.block(block)
		}
	}
	return string(p.out)
}

// printer writes syntax trees.
type printer struct {
	out []byte
}

// put writes tokens.
func (p *printer) put(tokens ...string) {
	for _, t := range tokens {
		if p.runsInto(t) {
			p.out = append(p.out, ' ')
		}
		p.out = append(p.out, t...)
	}
}

// runsInto tells whether a token must be separated from what is written.
func (p *printer) runsInto(t string) bool {
	n := len(p.out)
	return n > 0 && t != "" && isLetterOrDigit(p.out[n-1]) && isLetterOrDigit(t[0])
}

// block writes a block.
func (p *printer) block(n api.Node) {
	p.put("{")
	for _, statement := range n.Kids {
		p.statement(statement)
	}
	p.put("}")
}

// statement writes a statement.
func (p *printer) statement(n api.Node) {
	switch n.Kind {
	case api.NodeAssign:
		p.put(n.S, "=")
		p.enclosed("", kid(n, 0), ";")
	case api.NodeStore:
		p.put(n.S)
		p.enclosed("[", kid(n, 0), "]")
		p.enclosed("=", kid(n, 1), ";")
	case api.NodeIf:
		p.enclosed("if", kid(n, 0), "")
		p.block(kid(n, 1))
		if otherwise := kid(n, 2); len(otherwise.Kids) > 0 {
			p.put("else")
			p.block(otherwise)
		}
	case api.NodeWhile:
		p.enclosed("while", kid(n, 0), "")
		p.block(kid(n, 1))
	case api.NodeEffect:
		p.enclosed("effect", kid(n, 0), ",")
		p.enclosed("", kid(n, 1), ";")
	case api.NodeStop:
		p.put("stop", ";")
	}
}

// enclosed writes an expression of any level between two tokens, each of which may be empty: none.
func (p *printer) enclosed(before string, n api.Node, after string) {
	p.put(before)
	p.expr(n, orLevel)
	p.put(after)
}

// expr writes an expression where the grammar has one of the level least.
func (p *printer) expr(n api.Node, least int) {
	level := levelOf(n)
	if level < least {
		p.enclosed("(", n, ")")
		return
	}
	switch n.Kind {
	case api.NodeInt:
		p.put(strconv.Itoa(n.N))
	case api.NodeBool:
		p.put(boolText(n.N))
	case api.NodeVar, api.NodeName:
		p.put(n.S)
	case api.NodeField:
		p.put(n.S)
		p.enclosed("[", kid(n, 0), "]")
	case api.NodeUnary:
		p.put(n.S)
		p.expr(kid(n, 0), level)
	case api.NodeBinary:
		p.expr(kid(n, 0), leftLevel(level))
		p.put(n.S)
		p.expr(kid(n, 1), level+1)
	}
}

// levelOf returns the level of an expression.
func levelOf(n api.Node) int {
	switch {
	case n.Kind == api.NodeBinary:
		return binaryLevel(n.S)
	case n.Kind == api.NodeUnary && n.S == "!":
		return notLevel
	case n.Kind == api.NodeUnary:
		return unaryLevel
	}
	return primaryLevel
}

// leftLevel returns the level of the left operand of a binary operator: its own, but for comparisons, which form no chains.
func leftLevel(level int) int {
	if level == comparisonLevel {
		return sumLevel
	}
	return level
}

// boolText returns the token of a NodeBool with the value n.
func boolText(n int) string {
	if n == 0 {
		return "false"
	}
	return "true"
}

// kid returns a child, or the zero node, of which nothing is written, if a tree that Parse did not make lacks it.
func kid(n api.Node, i int) api.Node {
	if i >= len(n.Kids) {
		return api.Node{}
	}
	return n.Kids[i]
}
