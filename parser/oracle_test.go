package parser_test

import (
	"math/rand"
	"slices"
	"strconv"
	"strings"

	"arenanet/api"
)

// grammar is the grammar of the specification, with repetitions as rules that call themselves. A symbol that has no rules stands for a
// token: NAME, FIELD and INT for any name, field name and integer, others for themselves. The first rule of a symbol leads to an end.
var grammar = map[string][][]string{
	"program":    {{"on", "event", "block"}, {"program", "on", "event", "block"}},
	"event":      {{"act"}, {"tick"}, {"hit"}},
	"block":      {{"{", "}"}, {"{", "statements", "}"}},
	"statements": {{"statement"}, {"statements", "statement"}},
	"statement": {
		{"stop", ";"},
		{"NAME", "=", "expr", ";"},
		{"FIELD", "[", "expr", "]", "=", "expr", ";"},
		{"if", "expr", "block"},
		{"if", "expr", "block", "else", "block"},
		{"while", "expr", "block"},
		{"effect", "expr", ",", "expr", ";"},
	},
	"expr":       {{"and"}, {"expr", "||", "and"}},
	"and":        {{"not"}, {"and", "&&", "not"}},
	"not":        {{"comparison"}, {"!", "not"}},
	"comparison": {{"sum"}, {"sum", "relation", "sum"}},
	"relation":   {{"<"}, {"<="}, {">"}, {">="}, {"=="}, {"!="}},
	"sum":        {{"product"}, {"sum", "+", "product"}, {"sum", "-", "product"}},
	"product":    {{"unary"}, {"product", "*", "unary"}, {"product", "/", "unary"}},
	"unary":      {{"primary"}, {"-", "unary"}},
	"primary":    {{"INT"}, {"true"}, {"false"}, {"self"}, {"other"}, {"tick"}, {"NAME"}, {"FIELD", "[", "expr", "]"}, {"(", "expr", ")"}},
}

var (
	fields   = []string{"x", "y", "vx", "vy", "a", "b", "hit", "still"}
	reserved = append([]string{"on", "act", "tick", "if", "else", "while", "effect", "stop", "true", "false", "self", "other"}, fields...)
	symbols  = []string{"||", "&&", "<=", ">=", "==", "!=", "{", "}", "[", "]", "(", ")", "=", ";", ",", "<", ">", "+", "-", "*", "/", "!"}
	names    = []string{"v", "w", "i", "z9", "on1", "iff", "hits", "vz", "abcdefgh", "a2345678", "tick0"}
	integers = []string{"0", "1", "7", "007", "42", "2147483647", "000000000000000000000000002147483647"}
	invalid  = map[string]api.Errno{
		"abcdefghi": api.ErrLimit, "ticktickt": api.ErrLimit, "a23456789": api.ErrLimit,
		"2147483648": api.ErrRange, "99999999999999999999999999": api.ErrRange, "00000000002147483648": api.ErrRange,
		"$": api.ErrSyntax, "A": api.ErrSyntax, "_": api.ErrSyntax, "\r": api.ErrSyntax, "\x00": api.ErrSyntax, ".": api.ErrSyntax, "é": api.ErrSyntax,
		"|": api.ErrSyntax, "&": api.ErrSyntax, "%": api.ErrSyntax, "\"": api.ErrSyntax, "\v": api.ErrSyntax, "\f": api.ErrSyntax, "\xff": api.ErrSyntax,
	}
)

func isWordByte(c byte) bool { return 'a' <= c && c <= 'z' || isDigitByte(c) }

func isDigitByte(c byte) bool { return '0' <= c && c <= '9' }

// stands tells whether a token is one that a symbol of the grammar stands for.
func stands(symbol, text string) bool {
	switch symbol {
	case "NAME":
		return isWordByte(text[0]) && !isDigitByte(text[0]) && !slices.Contains(reserved, text)
	case "FIELD":
		return slices.Contains(fields, text)
	case "INT":
		return isDigitByte(text[0])
	}
	return symbol == text
}

// item is a rule of which the parts before dot have been found, from the token with the number from on.
type item struct {
	head            string
	rule, dot, from int
}

// recognizer knows all ways in which some tokens can begin a program (Earley's algorithm).
type recognizer struct {
	sets [][]item // by the number of tokens
	done bool     // whether the tokens are a program
}

func newRecognizer() *recognizer {
	r := &recognizer{done: true}
	r.close(nil, "program")
	return r
}

// close adds a set: some items, the rules of a symbol, and all that follows from them.
func (r *recognizer) close(set []item, symbol string) {
	now := len(r.sets)
	known := map[item]bool{}
	for _, it := range set {
		known[it] = true
	}
	add := func(it item) {
		if !known[it] {
			known[it] = true
			set = append(set, it)
		}
	}
	predict := func(symbol string) {
		for rule := range grammar[symbol] {
			add(item{symbol, rule, 0, now})
		}
	}
	predict(symbol)
	for i := 0; i < len(set); i++ {
		it := set[i]
		parts := grammar[it.head][it.rule]
		if it.dot < len(parts) {
			predict(parts[it.dot])
			continue
		}
		if it.head == "program" && it.from == 0 {
			r.done = true
		}
		for _, up := range r.sets[it.from] {
			if wants := grammar[up.head][up.rule]; up.dot < len(wants) && wants[up.dot] == it.head {
				up.dot++
				add(up)
			}
		}
	}
	r.sets = append(r.sets, set)
}

// next adds a token; it tells whether some program begins with the tokens, and adds nothing otherwise.
func (r *recognizer) next(text string) bool {
	var set []item
	for _, it := range r.sets[len(r.sets)-1] {
		if parts := grammar[it.head][it.rule]; it.dot < len(parts) && stands(parts[it.dot], text) {
			it.dot++
			set = append(set, it)
		}
	}
	if len(set) == 0 {
		return false
	}
	r.done = false
	r.close(set, "")
	return true
}

// levels counts the levels that tokens open, by their texts alone.
type levels struct {
	open []string
	last string
}

// endsOperand tells whether the last token ends an operand.
func (l *levels) endsOperand() bool {
	switch l.last {
	case ")", "]", "true", "false", "self", "other", "tick":
		return true
	}
	return stands("INT", l.last) || stands("NAME", l.last)
}

// drop closes all levels of a unary operator that were opened last.
func (l *levels) drop(operator string) {
	for len(l.open) > 0 && l.open[len(l.open)-1] == operator {
		l.open = l.open[:len(l.open)-1]
	}
}

// next adds a token and returns the level that it opens, or 0.
func (l *levels) next(text string) int {
	defer func() { l.last = text }()
	if l.last != "" && l.endsOperand() {
		l.drop("-")
	}
	switch text {
	case "&&", "||", ")", "]", ";", ",", "{":
		l.drop("!")
	}
	switch text {
	case ")", "]", "}":
		l.open = l.open[:len(l.open)-1]
		return 0
	case "{", "(", "[", "!":
	case "-":
		if l.endsOperand() {
			return 0
		}
	default:
		return 0
	}
	l.open = append(l.open, text)
	return len(l.open)
}

// expected returns which token of a source has the first error, and its code; the number of tokens and ErrSyntax if the source ends too
// early; -1 and OK if it is a program.
func expected(tokens []string) (int, api.Errno) {
	r, l, events := newRecognizer(), levels{}, map[string]bool{}
	for i, text := range tokens {
		if e, ok := invalid[text]; ok {
			return i, e
		}
		if !r.next(text) {
			return i, api.ErrSyntax
		}
		if i > 0 && tokens[i-1] == "on" {
			if events[text] {
				return i, api.ErrDup
			}
			events[text] = true
		}
		if l.next(text) > 20 {
			return i, api.ErrLimit
		}
	}
	if !r.done {
		return len(tokens), api.ErrSyntax
	}
	return -1, api.OK
}

// grow adds the tokens of something random that a symbol of the grammar leads to. From most tokens on it takes the way to an end.
func grow(rnd *rand.Rand, tokens []string, symbol string, most int) []string {
	rules, ok := grammar[symbol]
	switch {
	case symbol == "NAME":
		return append(tokens, names[rnd.Intn(len(names))])
	case symbol == "FIELD":
		return append(tokens, fields[rnd.Intn(len(fields))])
	case symbol == "INT":
		return append(tokens, integers[rnd.Intn(len(integers))])
	case !ok:
		return append(tokens, symbol)
	}
	rule := rules[0]
	if len(tokens) < most {
		rule = rules[rnd.Intn(len(rules))]
	}
	for _, part := range rule {
		tokens = grow(rnd, tokens, part, most)
	}
	return tokens
}

// growProgram returns the tokens of a random program by the grammar; handlers may occur twice in it.
func growProgram(rnd *rand.Rand, most int) []string {
	return grow(rnd, nil, "program", rnd.Intn(most))
}

// growValid returns the tokens of a random program without errors, which has about so many tokens at most.
func growValid(rnd *rand.Rand, most int) []string {
	for {
		tokens := growProgram(rnd, most)
		if at, _ := expected(tokens); at < 0 {
			return tokens
		}
	}
}

// anyToken returns a random token, which may be invalid.
func anyToken(rnd *rand.Rand) string {
	bad := make([]string, 0, len(invalid))
	for text := range invalid {
		bad = append(bad, text)
	}
	slices.Sort(bad)
	lists := [][]string{symbols, symbols, reserved, reserved, names, integers, bad}
	list := lists[rnd.Intn(len(lists))]
	return list[rnd.Intn(len(list))]
}

// merges tells whether two tokens without white space between them may be read in another way.
func merges(first, second string) bool {
	a, b := first[len(first)-1], second[0]
	return isWordByte(a) && isWordByte(b) || strings.IndexByte("<>=!|&", a) >= 0 && strings.IndexByte("=|&", b) >= 0
}

// gap returns random white space and comments, which may be empty unless there must be some.
func gap(rnd *rand.Rand, must bool) string {
	pieces := []string{" ", "\t", "\n", "#\n", "# on act { $ é \"'\r #\n", "#####\n"}
	n := []int{0, 0, 1, 1, 2, 3}[rnd.Intn(6)]
	if must && n == 0 {
		n = 1
	}
	var b strings.Builder
	for range n {
		b.WriteString(pieces[rnd.Intn(len(pieces))])
	}
	return b.String()
}

// source writes tokens with gaps, and returns the offsets of the tokens and of the end too.
func source(tokens []string, gap func(must bool) string) (string, []int) {
	var b strings.Builder
	var offsets []int
	for i, text := range tokens {
		b.WriteString(gap(i > 0 && merges(tokens[i-1], text)))
		offsets = append(offsets, b.Len())
		b.WriteString(text)
	}
	b.WriteString(gap(false))
	return b.String(), append(offsets, b.Len())
}

// narrow is the gap that is as small as can be.
func narrow(must bool) string {
	if must {
		return " "
	}
	return ""
}

// tell writes a tree with every part in parentheses.
func tell(n api.Node) string {
	kinds := []string{"none", "assign", "store", "if", "while", "effect", "stop", "block", "int", "bool", "var", "field", "name", "unary", "binary"}
	parts := []string{"?"}
	if n.Kind >= 0 && n.Kind < len(kinds) {
		parts[0] = kinds[n.Kind]
	}
	if n.N != 0 || n.Kind == api.NodeInt || n.Kind == api.NodeBool {
		parts = append(parts, strconv.Itoa(n.N))
	}
	if n.S != "" {
		parts = append(parts, n.S)
	}
	for _, kid := range n.Kids {
		parts = append(parts, tell(kid))
	}
	return "(" + strings.Join(parts, " ") + ")"
}
