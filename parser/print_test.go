package parser_test

import (
	"math/rand"
	"slices"
	"strings"
	"testing"

	"arenanet/api"
	"arenanet/parser"
)

func TestP13_2_Print(t *testing.T) {
	for _, c := range []struct{ source, want string }{
		{"", ""}, {" # nothing", ""}, {"on act { }", "on act{}"}, {"on hit{}on tick{}on act{}", "on act{}on tick{}on hit{}"}, {"on hit{stop;}on act{}", "on act{}on hit{stop;}"}, {"on tick{v=3;}", "on tick{v=3;}"},
		{"on act{ v = 1 ; x [ 1 ] = 2 ; }", "on act{v=1;x[1]=2;}"}, {"on act{v = 007 + 000;}", "on act{v=7+0;}"}, {"on act{v=2147483647;}", "on act{v=2147483647;}"}, {"on act{v=true;w=false;}", "on act{v=true;w=false;}"}, {"on act{v=self;v=other;v=tick;}", "on act{v=self;v=other;v=tick;}"},
		{"on act{if (v) {} else {}}", "on act{if v{}}"}, {"on act{if v{}else{stop;}}", "on act{if v{}else{stop;}}"}, {"on act{if v{}else{if w{}}}", "on act{if v{}else{if w{}}}"}, {"on act{if(v<w){v=1;} else {w=1;} stop;}", "on act{if v<w{v=1;}else{w=1;}stop;}"},
		{"on act{if ( 1 + 2 ) * 3 {}}", "on act{if(1+2)*3{}}"}, {"on act{if - 1 {}}", "on act{if-1{}}"}, {"on act{if ! v {}}", "on act{if!v{}}"}, {"on act{while ( v ) { v = v - 1 ; }}", "on act{while v{v=v-1;}}"}, {"on act{while x [ 0 ] { }}", "on act{while x[0]{}}"},
		{"on act{effect ( 1 ) , ( 2 ) ;}", "on act{effect 1,2;}"}, {"on act{effect ( 1 + 2 ) * 3 , - 2 ;}", "on act{effect(1+2)*3,-2;}"}, {"on act{effect - 1 , ! v ;}", "on act{effect-1,!v;}"},
		{"on act{v = - - 1 ;}", "on act{v=--1;}"}, {"on act{v = 1 - - 2 ;}", "on act{v=1--2;}"}, {"on act{v = ! ! w ;}", "on act{v=!!w;}"}, {"on act{v = ! ( w == 1 ) ;}", "on act{v=!w==1;}"}, {"on act{v = ( ! w ) == 1 ;}", "on act{v=(!w)==1;}"}, {"on act{v=-(-(1));}", "on act{v=--1;}"}, {"on act{v=-(1*2);}", "on act{v=-(1*2);}"}, {"on act{v=(-1)*2;}", "on act{v=-1*2;}"}, {"on act{v=-(!w);}", "on act{v=-(!w);}"}, {"on act{v=!(-w);}", "on act{v=!-w;}"},
		{"on act{v=((1+2))+3;}", "on act{v=1+2+3;}"}, {"on act{v=1+(2+3);}", "on act{v=1+(2+3);}"}, {"on act{v=1+(2*3);}", "on act{v=1+2*3;}"}, {"on act{v=(1+2)*3;}", "on act{v=(1+2)*3;}"}, {"on act{v=1*(2/3);}", "on act{v=1*(2/3);}"},
		{"on act{v=(1<2)<3;}", "on act{v=(1<2)<3;}"}, {"on act{v=1<(2<3);}", "on act{v=1<(2<3);}"}, {"on act{v=(1<2)&&(3<4);}", "on act{v=1<2&&3<4;}"}, {"on act{v=(v&&w)||z;}", "on act{v=v&&w||z;}"}, {"on act{v=v&&(w||z);}", "on act{v=v&&(w||z);}"}, {"on act{v=v&&(w&&z);}", "on act{v=v&&(w&&z);}"}, {"on act{v=(!v)&&(!w);}", "on act{v=!v&&!w;}"},
		{"on act{x[(y[(0)])]=x[((1)+2)];}", "on act{x[y[0]]=x[1+2];}"}, {"on act{hit [ self ] = still [ other ] ;}", "on act{hit[self]=still[other];}"}, {"on act{v=(x[0])+(tick);}", "on act{v=x[0]+tick;}"},
	} {
		if got := parser.Print(parse(t, c.source)); got != c.want {
			t.Errorf("%q: %q, want %q", c.source, got, c.want)
		}
	}
}

// operators are all ways to make an expression of others.
var operators = []api.Node{
	{Kind: api.NodeUnary, S: "!"}, {Kind: api.NodeUnary, S: "-"}, {Kind: api.NodeField, S: "x"},
	{Kind: api.NodeBinary, S: "||"}, {Kind: api.NodeBinary, S: "&&"}, {Kind: api.NodeBinary, S: "<"}, {Kind: api.NodeBinary, S: "<="}, {Kind: api.NodeBinary, S: ">"}, {Kind: api.NodeBinary, S: ">="},
	{Kind: api.NodeBinary, S: "=="}, {Kind: api.NodeBinary, S: "!="}, {Kind: api.NodeBinary, S: "+"}, {Kind: api.NodeBinary, S: "-"}, {Kind: api.NodeBinary, S: "*"}, {Kind: api.NodeBinary, S: "/"},
}

var leaves = []api.Node{{Kind: api.NodeInt, N: 12}, {Kind: api.NodeVar, S: "w"}, {Kind: api.NodeBool, N: 1}, {Kind: api.NodeName, S: "tick"}}

// trees returns expressions with so many operators: all of them, or some random ones.
func trees(operations int, pick func(n int) []int) []api.Node {
	if operations == 0 {
		return []api.Node{leaves[pick(len(leaves))[0]]}
	}
	var out []api.Node
	for _, i := range pick(len(operators)) {
		if operators[i].Kind != api.NodeBinary {
			for _, kid := range trees(operations-1, pick) {
				out = append(out, api.Node{Kind: operators[i].Kind, S: operators[i].S, Kids: []api.Node{kid}})
			}
			continue
		}
		for _, left := range pick(operations) {
			for _, a := range trees(left, pick) {
				for _, b := range trees(operations-1-left, pick) {
					out = append(out, api.Node{Kind: api.NodeBinary, S: operators[i].S, Kids: []api.Node{a, b}})
				}
			}
		}
	}
	return out
}

// all picks everything, but of the leaves, of which there are four, always the second.
func all(n int) []int {
	out := make([]int, n)
	for i := range out {
		out[i] = (i + 1) % n
	}
	return out
}

func one(rnd *rand.Rand) func(n int) []int {
	return func(n int) []int { return []int{rnd.Intn(n)} }
}

// operations returns how many operators that are no fields an expression has.
func operations(n api.Node) int {
	count := 0
	if n.Kind == api.NodeUnary || n.Kind == api.NodeBinary {
		count = 1
	}
	for _, kid := range n.Kids {
		count += operations(kid)
	}
	return count
}

// write writes an expression; the bits of parens tell which operators get parentheses, counted from the root, the left side first.
func write(n api.Node, parens *int) string {
	enclosed := false
	if n.Kind == api.NodeUnary || n.Kind == api.NodeBinary {
		enclosed = *parens%2 != 0
		*parens /= 2
	}
	text := ""
	switch n.Kind {
	case api.NodeInt:
		text = "12"
	case api.NodeBool:
		text = "true"
	case api.NodeVar, api.NodeName:
		text = n.S
	case api.NodeField:
		text = n.S + "[" + write(n.Kids[0], parens) + "]"
	case api.NodeUnary:
		text = n.S + write(n.Kids[0], parens)
	case api.NodeBinary:
		left := write(n.Kids[0], parens)
		text = left + n.S + write(n.Kids[1], parens)
	}
	if enclosed {
		return "(" + text + ")"
	}
	return text
}

// shortest tries all sets of parentheses and returns the shortest text with the tree of an expression.
func shortest(t *testing.T, n api.Node) string {
	t.Helper()
	best, found := "", 0
	for set := range 1 << operations(n) {
		parens := set
		text := write(n, &parens)
		r, _, e := parser.Parse("on hit{v=" + text + ";}")
		if e != api.OK || tell(r.On[api.OnHit].Kids[0].Kids[0]) != tell(n) {
			continue
		}
		if found == 0 || len(text) < len(best) {
			best, found = text, 0
		}
		if len(text) == len(best) {
			found++
		}
	}
	if found != 1 {
		t.Fatalf("%s: %d texts are shortest, %q among them", tell(n), found, best)
	}
	return best
}

func TestP13_2_FewestParentheses(t *testing.T) {
	rnd := rand.New(rand.NewSource(23))
	list := slices.Concat(trees(1, all), trees(2, all))
	for range 600 {
		list = append(list, trees(3+rnd.Intn(4), one(rnd))...)
	}
	for _, n := range list {
		r := api.Rules{On: [3]api.Node{api.OnHit: {Kind: api.NodeBlock, Kids: []api.Node{{Kind: api.NodeAssign, S: "v", Kids: []api.Node{n}}}}}}
		if got, want := parser.Print(r), "on hit{v="+shortest(t, n)+";}"; got != want {
			t.Errorf("%s: %q, want %q", tell(n), got, want)
		}
	}
}

// blanks checks that a text has white space just where two words or integers meet.
func blanks(t *testing.T, text string) {
	t.Helper()
	for i := range len(text) {
		if strings.IndexByte("\t\n#", text[i]) >= 0 {
			t.Fatalf("%q: byte %d", text, i)
		}
		if text[i] == ' ' && (i == 0 || i == len(text)-1 || !isWordByte(text[i-1]) || !isWordByte(text[i+1])) {
			t.Fatalf("%q: a blank at %d", text, i)
		}
	}
}

// wrap puts redundant parentheses around primaries: around each integer, and each variable that is not assigned to.
func wrap(rnd *rand.Rand, tokens []string) []string {
	var out []string
	for i, text := range tokens {
		name := stands("NAME", text) && !slices.Contains([]string{"{", "}", ";"}, tokens[i-1])
		if rnd.Intn(2) == 0 && (name || stands("INT", text)) {
			out = append(out, "(", text, ")")
		} else {
			out = append(out, text)
		}
	}
	return out
}

// turn exchanges the handlers of a program.
func turn(rnd *rand.Rand, tokens []string) []string {
	var parts [][]string
	for i, text := range tokens {
		if text == "on" {
			parts = append(parts, nil)
		}
		parts[len(parts)-1] = append(parts[len(parts)-1], tokens[i])
	}
	rnd.Shuffle(len(parts), func(i, j int) { parts[i], parts[j] = parts[j], parts[i] })
	return slices.Concat(parts...)
}

// sameRules checks two programs with Equal and by another way.
func sameRules(t *testing.T, what string, a, b api.Rules) {
	t.Helper()
	for i := range a.On {
		if !parser.Equal(a.On[i], b.On[i]) || tell(a.On[i]) != tell(b.On[i]) {
			t.Fatalf("%s: handler %d is\n%s, want\n%s", what, i, tell(a.On[i]), tell(b.On[i]))
		}
	}
}

func TestP13_4_RoundTrip(t *testing.T) {
	rnd := rand.New(rand.NewSource(34))
	handlers := 0
	for range 1000 {
		tokens := growValid(rnd, 200)
		text, _ := source(tokens, narrow)
		r := parse(t, text)
		printed := parser.Print(r)
		if len(printed) > len(text) {
			t.Fatalf("%q: %q is longer", text, printed)
		}
		blanks(t, printed)
		again := parse(t, printed)
		sameRules(t, printed, again, r)
		if second := parser.Print(again); second != printed {
			t.Fatalf("%q, then %q", printed, second)
		}
		if strings.Count(text, "on ") > 1 {
			handlers++
		}
		if other := turn(rnd, tokens); len(text) < 300 {
			spaced, _ := source(other, func(must bool) string { return gap(rnd, must) })
			sameRules(t, spaced, parse(t, spaced), r)
		}
		wrapped := wrap(rnd, tokens)
		if at, code := expected(wrapped); at >= 0 {
			if code != api.ErrLimit {
				t.Fatalf("%v: token %d, %v", wrapped, at, code)
			}
			continue
		}
		if spaced, _ := source(wrapped, narrow); len(spaced) <= 2000 {
			other := parse(t, spaced)
			sameRules(t, spaced, other, r)
			if got := parser.Print(other); got != printed {
				t.Fatalf("%q: %q, want %q", spaced, got, printed)
			}
		}
	}
	if handlers < 100 {
		t.Errorf("only %d programs have several handlers", handlers)
	}
}

func TestP13_4_FullSources(t *testing.T) {
	for _, text := range []string{
		"on act{v=" + strings.Repeat("1+", 994) + "1;}",
		"on act{v=" + strings.Repeat("w||", 660) + "w;}",
		"on act{" + strings.Repeat("stop;", 398) + "}",
		"on hit{" + strings.Repeat("if v{}", 331) + "}",
		"on tick{" + strings.Repeat("while v{", 18) + strings.Repeat("x[0]=-1;", 200) + strings.Repeat("}", 19),
	} {
		r := parse(t, text)
		if got := parser.Print(r); got != text {
			t.Errorf("%q: %q", text, got)
		}
	}
}

// TestP13_2_AnyRules prints what Parse never returns: nothing is promised of the text, only that the call ends.
func TestP13_2_AnyRules(t *testing.T) {
	circle := make([]api.Node, 3)
	for i := range circle {
		circle[i] = api.Node{Kind: []int{api.NodeBinary, api.NodeIf, api.NodeBlock}[i], S: "+", Kids: circle}
	}
	double := api.Node{Kind: api.NodeInt}
	for range 64 {
		double = api.Node{Kind: api.NodeBinary, S: "*", Kids: []api.Node{double, double}}
	}
	for kind := -1; kind < 17; kind++ {
		for _, kids := range [][]api.Node{nil, {{}}, {{Kind: kind}}, {{Kind: kind}, {Kind: kind}}, {{}, {}, {Kids: []api.Node{{}}}}, circle, {double}} {
			for _, s := range []string{"", "?", "-", "!", "<", "v"} {
				n := api.Node{Kind: kind, N: -5, S: s, Kids: kids}
				for _, body := range []api.Node{n, {Kind: api.NodeBlock, Kids: []api.Node{n}}, {Kind: api.NodeBlock, Kids: []api.Node{{Kind: api.NodeAssign, Kids: []api.Node{n}}}}} {
					parser.Print(api.Rules{On: [3]api.Node{body, {}, body}})
				}
			}
		}
	}
}
