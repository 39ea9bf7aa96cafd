package parser_test

import (
	"math/rand"
	"slices"
	"strings"
	"testing"

	"arenanet/api"
	"arenanet/parser"
)

// parse returns the tree of a source that must be a program.
func parse(t *testing.T, source string) api.Rules {
	t.Helper()
	r, at, e := parser.Parse(source)
	if at != 0 || e != api.OK {
		t.Fatalf("%q: offset %d, %v", source, at, e)
	}
	return r
}

// refuse checks that a source has some first error.
func refuse(t *testing.T, source string, at int, code api.Errno) {
	t.Helper()
	r, gotAt, got := parser.Parse(source)
	if gotAt != at || got != code {
		t.Errorf("%q: offset %d, %v, want offset %d, %v", source, gotAt, got, at, code)
	}
	for i, n := range r.On {
		if got != api.OK && (n.Kind != 0 || n.N != 0 || n.S != "" || len(n.Kids) != 0) {
			t.Errorf("%q: beside an error, handler %d is %s", source, i, tell(n))
		}
	}
}

// act returns the tree of the only handler of a program, act.
func act(t *testing.T, source string) string {
	t.Helper()
	r := parse(t, source)
	if r.On[api.OnTick].Kind != 0 || r.On[api.OnHit].Kind != 0 {
		t.Errorf("%q: more handlers than one", source)
	}
	return tell(r.On[api.OnAct])
}

// value returns the tree of an expression.
func value(t *testing.T, expr string) string {
	t.Helper()
	tree := act(t, "on act{v="+expr+";}")
	return strings.TrimSuffix(strings.TrimPrefix(tree, "(block (assign v "), "))")
}

func TestP13_1_Examples(t *testing.T) {
	r := parse(t, "on tick{x[0]=1+2*v;}")
	if got, want := tell(r.On[api.OnTick]), "(block (store x (int 0) (binary + (int 1) (binary * (int 2) (var v)))))"; got != want {
		t.Error(got)
	}
	if r.On[api.OnAct].Kind != 0 || r.On[api.OnHit].Kind != 0 {
		t.Error("the program has one handler")
	}
	refuse(t, "on act { stop }", 14, api.ErrSyntax)
}

func TestP13_1_Statements(t *testing.T) {
	for source, want := range map[string]string{
		"":                         "(block)",
		"stop;":                    "(block (stop))",
		"stop;stop;":               "(block (stop) (stop))",
		"v=1;":                     "(block (assign v (int 1)))",
		"abcdefgh=0;":              "(block (assign abcdefgh (int 0)))",
		"x[1]=2;":                  "(block (store x (int 1) (int 2)))",
		"y[1]=2;vx[1]=2;":          "(block (store y (int 1) (int 2)) (store vx (int 1) (int 2)))",
		"vy[1]=2;a[1]=2;":          "(block (store vy (int 1) (int 2)) (store a (int 1) (int 2)))",
		"b[1]=2;hit[1]=2;":         "(block (store b (int 1) (int 2)) (store hit (int 1) (int 2)))",
		"still[self]=x[y[0]];":     "(block (store still (name self) (field x (field y (int 0)))))",
		"if 1{stop;}":              "(block (if (int 1) (block (stop)) (block)))",
		"if v{}else{stop;}":        "(block (if (var v) (block) (block (stop))))",
		"if v{}else{}":             "(block (if (var v) (block) (block)))",
		"if v{if w{}}else{v=1;}":   "(block (if (var v) (block (if (var w) (block) (block))) (block (assign v (int 1)))))",
		"if v{if w{}else{v=1;}}":   "(block (if (var v) (block (if (var w) (block) (block (assign v (int 1))))) (block)))",
		"while true{v=1;w=2;}":     "(block (while (bool 1) (block (assign v (int 1)) (assign w (int 2)))))",
		"while(v)<(1){}":           "(block (while (binary < (var v) (int 1)) (block)))",
		"effect 1,2;":              "(block (effect (int 1) (int 2)))",
		"effect a[0],v||w;stop;":   "(block (effect (field a (int 0)) (binary || (var v) (var w))) (stop))",
		"if v{}v=1;":               "(block (if (var v) (block) (block)) (assign v (int 1)))",
		"if v{}else{}if w{}":       "(block (if (var v) (block) (block)) (if (var w) (block) (block)))",
		"x[if1]=-1;":               "(block (store x (var if1) (unary - (int 1))))",
		"while v{while w{stop;}}":  "(block (while (var v) (block (while (var w) (block (stop))))))",
		"v=v;hit[hit[0]]=hit[v];":  "(block (assign v (var v)) (store hit (field hit (int 0)) (field hit (var v))))",
		"effect tick,tick;v=tick;": "(block (effect (name tick) (name tick)) (assign v (name tick)))",
	} {
		if got := act(t, "on act{"+source+"}"); got != want {
			t.Errorf("%q: %s, want %s", source, got, want)
		}
	}
}

func TestP13_1_Expressions(t *testing.T) {
	for source, want := range map[string]string{
		"0": "(int 0)", "00": "(int 0)", "0012": "(int 12)", "2147483647": "(int 2147483647)", strings.Repeat("0", 900) + "2147483647": "(int 2147483647)",
		"true": "(bool 1)", "false": "(bool 0)", "self": "(name self)", "other": "(name other)", "tick": "(name tick)",
		"v": "(var v)", "trues": "(var trues)", "xx": "(var xx)", "x1": "(var x1)", "vxy": "(var vxy)", "hit2": "(var hit2)", "onact": "(var onact)", "c": "(var c)", "z": "(var z)", "zzzzzzzz": "(var zzzzzzzz)", "a9876543": "(var a9876543)",
		"x[0]": "(field x (int 0))", "still[v+1]": "(field still (binary + (var v) (int 1)))", "hit[other]": "(field hit (name other))", "a[b[x[y[vx[vy[0]]]]]]": "(field a (field b (field x (field y (field vx (field vy (int 0)))))))",
		"((v))": "(var v)", "(1)+((2))": "(binary + (int 1) (int 2))",
		"-1": "(unary - (int 1))", "--1": "(unary - (unary - (int 1)))", "-x[-1]": "(unary - (field x (unary - (int 1))))", "-(1+2)": "(unary - (binary + (int 1) (int 2)))", "-true": "(unary - (bool 1))",
		"!v": "(unary ! (var v))", "!!v": "(unary ! (unary ! (var v)))", "!1<2": "(unary ! (binary < (int 1) (int 2)))", "!-1": "(unary ! (unary - (int 1)))", "!(v&&w)": "(unary ! (binary && (var v) (var w)))",
		"!v&&w": "(binary && (unary ! (var v)) (var w))", "v||!w&&!z": "(binary || (var v) (binary && (unary ! (var w)) (unary ! (var z))))",
		"-1*-2": "(binary * (unary - (int 1)) (unary - (int 2)))", "1--2": "(binary - (int 1) (unary - (int 2)))", "1---2": "(binary - (int 1) (unary - (unary - (int 2))))",
		"(1<2)<(3<4)": "(binary < (binary < (int 1) (int 2)) (binary < (int 3) (int 4)))", "(!v)==w": "(binary == (unary ! (var v)) (var w))", "-1<-2": "(binary < (unary - (int 1)) (unary - (int 2)))",
		"1-(2-3)": "(binary - (int 1) (binary - (int 2) (int 3)))", "1-2-3-4": "(binary - (binary - (binary - (int 1) (int 2)) (int 3)) (int 4))", "8/4/2*1": "(binary * (binary / (binary / (int 8) (int 4)) (int 2)) (int 1))",
		"(v||w)&&z": "(binary && (binary || (var v) (var w)) (var z))", "v&&w&&z": "(binary && (binary && (var v) (var w)) (var z))", "v||w||z": "(binary || (binary || (var v) (var w)) (var z))",
		"1+2*3<4-5/6&&v!=w||z": "(binary || (binary && (binary < (binary + (int 1) (binary * (int 2) (int 3))) (binary - (int 4) (binary / (int 5) (int 6)))) (binary != (var v) (var w))) (var z))",
	} {
		if got := value(t, source); got != want {
			t.Errorf("%q: %s, want %s", source, got, want)
		}
	}
}

var ranks = map[string]int{"||": 1, "&&": 2, "<": 3, "<=": 3, ">": 3, ">=": 3, "==": 3, "!=": 3, "+": 4, "-": 4, "*": 5, "/": 5}

func TestP13_1_PairsOfOperators(t *testing.T) {
	for first, low := range ranks {
		for second, high := range ranks {
			source := "1" + first + "2" + second + "3"
			left := "(binary " + second + " (binary " + first + " (int 1) (int 2)) (int 3))"
			right := "(binary " + first + " (int 1) (binary " + second + " (int 2) (int 3)))"
			switch {
			case low == 3 && high == 3:
				refuse(t, "on act{v="+source+";}", len("on act{v=1"+first+"2"), api.ErrSyntax)
			case low >= high:
				if got := value(t, source); got != left {
					t.Errorf("%q: %s, want %s", source, got, left)
				}
			default:
				if got := value(t, source); got != right {
					t.Errorf("%q: %s, want %s", source, got, right)
				}
			}
		}
	}
	for operator, rank := range ranks {
		apart := "(binary " + operator + " (unary ! (var v)) (var w))"
		whole := "(unary ! (binary " + operator + " (var v) (var w)))"
		if got := value(t, "!v"+operator+"w"); rank < 3 && got != apart || rank >= 3 && got != whole {
			t.Errorf("!v%sw: %s", operator, got)
		}
		if got, want := value(t, "-v"+operator+"-w"), "(binary "+operator+" (unary - (var v)) (unary - (var w)))"; got != want {
			t.Errorf("-v%s-w: %s", operator, got)
		}
		if rank < 3 {
			if got, want := value(t, "v"+operator+"!w"), "(binary "+operator+" (var v) (unary ! (var w)))"; got != want {
				t.Errorf("v%s!w: %s", operator, got)
			}
		} else {
			refuse(t, "on act{v=v"+operator+"!w;}", len("on act{v=v"+operator), api.ErrSyntax)
		}
	}
}

func TestP13_1_Handlers(t *testing.T) {
	bodies := map[string]string{"act": "v=1;", "tick": "v=2;", "hit": "v=3;"}
	for _, order := range [][]string{nil, {"act"}, {"tick"}, {"hit"}, {"hit", "act"}, {"act", "tick", "hit"}, {"hit", "tick", "act"}, {"tick", "hit", "act"}} {
		var source strings.Builder
		for _, event := range order {
			source.WriteString("on " + event + "{" + bodies[event] + "}")
		}
		r := parse(t, source.String())
		for i, event := range []string{"act", "tick", "hit"} {
			want := "(none)"
			if slices.Contains(order, event) {
				want = "(block (assign v (int " + bodies[event][2:3] + ")))"
			}
			if got := tell(r.On[i]); got != want {
				t.Errorf("%q: handler %s is %s, want %s", source.String(), event, got, want)
			}
		}
		for _, event := range order {
			again := source.String() + "\non  " + event + "$"
			refuse(t, again, source.Len()+5, api.ErrDup)
		}
	}
}

func TestP13_1_Errors(t *testing.T) {
	for _, c := range []struct {
		source string
		at     int
		code   api.Errno
	}{
		{"", 0, api.OK}, {" \t\n", 0, api.OK}, {"#", 0, api.OK}, {"# on\n#", 0, api.OK}, {"#\r\xff\x00A\n on act{}", 0, api.OK},
		{"\r", 0, api.ErrSyntax}, {"on act{}\r\n", 8, api.ErrSyntax}, {"on\vact{}", 2, api.ErrSyntax}, {"on\u00a0act{}", 2, api.ErrSyntax}, {"// on", 0, api.ErrSyntax},
		// The source ends too early: the offset is that of its end, white space and comments included.
		{"on", 2, api.ErrSyntax}, {"on ", 3, api.ErrSyntax}, {"on act", 6, api.ErrSyntax}, {"on act {", 8, api.ErrSyntax}, {"on act { # }", 12, api.ErrSyntax}, {"on act{v=1;\n\n", 13, api.ErrSyntax},
		{"on act{if v", 11, api.ErrSyntax}, {"on act{if v{}", 13, api.ErrSyntax}, {"on act{if v{}else", 17, api.ErrSyntax}, {"on act{v", 8, api.ErrSyntax}, {"on act{v=1", 10, api.ErrSyntax}, {"on act{v=(1", 11, api.ErrSyntax}, {"on act{x", 8, api.ErrSyntax},
		// Something else than a handler.
		{"act{}", 0, api.ErrSyntax}, {"{}", 0, api.ErrSyntax}, {"v=1;", 0, api.ErrSyntax}, {"on on", 3, api.ErrSyntax}, {"on stop{}", 3, api.ErrSyntax}, {"on acts{}", 3, api.ErrSyntax}, {"on 1{}", 3, api.ErrSyntax}, {"on self{}", 3, api.ErrSyntax}, {"on x{}", 3, api.ErrSyntax},
		{"on act{};", 8, api.ErrSyntax}, {"on act{}}", 8, api.ErrSyntax}, {"on act{}stop;", 8, api.ErrSyntax}, {"onact{}", 0, api.ErrSyntax}, {"On act{}", 0, api.ErrSyntax}, {"on Act{}", 3, api.ErrSyntax}, {"on act stop;", 7, api.ErrSyntax}, {"on act()", 6, api.ErrSyntax}, {"on act,tick{}", 6, api.ErrSyntax}, {"on hit[", 6, api.ErrSyntax},
		// Something else than a statement.
		{"on act{;}", 7, api.ErrSyntax}, {"on act{1;}", 7, api.ErrSyntax}, {"on act{{}}", 7, api.ErrSyntax}, {"on act{on}", 7, api.ErrSyntax}, {"on act{else{}}", 7, api.ErrSyntax}, {"on act{self=1;}", 7, api.ErrSyntax}, {"on act{other=1;}", 7, api.ErrSyntax}, {"on act{true=1;}", 7, api.ErrSyntax}, {"on act{act=1;}", 7, api.ErrSyntax}, {"on act{tick;}", 7, api.ErrSyntax}, {"on act{-1;}", 7, api.ErrSyntax}, {"on act{(v)=1;}", 7, api.ErrSyntax}, {"on act{)}", 7, api.ErrSyntax}, {"on act{]}", 7, api.ErrSyntax},
		{"on act{v;}", 8, api.ErrSyntax}, {"on act{v[0]=1;}", 8, api.ErrSyntax}, {"on act{v+1;}", 8, api.ErrSyntax}, {"on act{v==1;}", 8, api.ErrSyntax}, {"on act{v=;}", 9, api.ErrSyntax}, {"on act{v=1}", 10, api.ErrSyntax}, {"on act{v=1,}", 10, api.ErrSyntax}, {"on act{v=w=1;}", 10, api.ErrSyntax}, {"on act{v=1;;}", 11, api.ErrSyntax},
		{"on act{x=1;}", 8, api.ErrSyntax}, {"on act{x;}", 8, api.ErrSyntax}, {"on act{x(0)=1;}", 8, api.ErrSyntax}, {"on act{x[]=1;}", 9, api.ErrSyntax}, {"on act{x[0)=1;}", 10, api.ErrSyntax}, {"on act{x[0]==1;}", 11, api.ErrSyntax}, {"on act{x[0];}", 11, api.ErrSyntax}, {"on act{x[0][0]=1;}", 11, api.ErrSyntax}, {"on act{x[0,1]=1;}", 10, api.ErrSyntax},
		{"on act{if{}}", 9, api.ErrSyntax}, {"on act{if v stop;}", 12, api.ErrSyntax}, {"on act{if v{}else stop;}", 18, api.ErrSyntax}, {"on act{if v{}else if w{}}", 18, api.ErrSyntax}, {"on act{if v{}else{}else{}}", 19, api.ErrSyntax}, {"on act{if v;{}}", 11, api.ErrSyntax}, {"on act{if(v{}}", 11, api.ErrSyntax},
		{"on act{while{}}", 12, api.ErrSyntax}, {"on act{while v{}else{}}", 16, api.ErrSyntax}, {"on act{while v stop;}", 15, api.ErrSyntax},
		{"on act{effect;}", 13, api.ErrSyntax}, {"on act{effect 1;}", 15, api.ErrSyntax}, {"on act{effect 1,;}", 16, api.ErrSyntax}, {"on act{effect 1,2}", 17, api.ErrSyntax}, {"on act{effect 1,2,3;}", 17, api.ErrSyntax}, {"on act{effect(1,2);}", 15, api.ErrSyntax}, {"on act{effect,1;}", 13, api.ErrSyntax},
		{"on act{stop}", 11, api.ErrSyntax}, {"on act{stop 1;}", 12, api.ErrSyntax}, {"on act{stop,}", 11, api.ErrSyntax},
		// Something else than an expression.
		{"on act{v=1+;}", 11, api.ErrSyntax}, {"on act{v=+1;}", 9, api.ErrSyntax}, {"on act{v=1 2;}", 11, api.ErrSyntax}, {"on act{v=1w;}", 10, api.ErrSyntax}, {"on act{v=v w;}", 11, api.ErrSyntax}, {"on act{v=();}", 10, api.ErrSyntax}, {"on act{v=(1;}", 11, api.ErrSyntax}, {"on act{v=(1];}", 11, api.ErrSyntax}, {"on act{v=1);}", 10, api.ErrSyntax}, {"on act{v=1];}", 10, api.ErrSyntax},
		{"on act{v=x;}", 10, api.ErrSyntax}, {"on act{v=x(0);}", 10, api.ErrSyntax}, {"on act{v=w[0];}", 10, api.ErrSyntax}, {"on act{v=self[0];}", 13, api.ErrSyntax}, {"on act{v=act;}", 9, api.ErrSyntax}, {"on act{v=stop;}", 9, api.ErrSyntax}, {"on act{v=on;}", 9, api.ErrSyntax}, {"on act{v=hit;}", 12, api.ErrSyntax},
		{"on act{v=1<2<3;}", 12, api.ErrSyntax}, {"on act{v=1==2!=3;}", 13, api.ErrSyntax}, {"on act{v=1+!2;}", 11, api.ErrSyntax}, {"on act{v=-!w;}", 10, api.ErrSyntax}, {"on act{v=1<!w;}", 11, api.ErrSyntax}, {"on act{v=!w!w;}", 11, api.ErrSyntax}, {"on act{v=w!;}", 10, api.ErrSyntax},
		{"on act{v=1&2;}", 10, api.ErrSyntax}, {"on act{v=1|2;}", 10, api.ErrSyntax}, {"on act{v=1&&&2;}", 12, api.ErrSyntax}, {"on act{v=1|||2;}", 12, api.ErrSyntax}, {"on act{v=1& &2;}", 10, api.ErrSyntax}, {"on act{v=1< =2;}", 12, api.ErrSyntax}, {"on act{v=1<==2;}", 12, api.ErrSyntax}, {"on act{v=1===2;}", 12, api.ErrSyntax}, {"on act{v=1=>2;}", 10, api.ErrSyntax}, {"on act{v=1<>2;}", 11, api.ErrSyntax}, {"on act{v=1%2;}", 10, api.ErrSyntax}, {"on act{v=1.5;}", 10, api.ErrSyntax}, {"on act{v==!w;}", 8, api.ErrSyntax}, {"on act{v=V;}", 9, api.ErrSyntax}, {"on act{v_1=1;}", 8, api.ErrSyntax}, {"on act{v='a';}", 9, api.ErrSyntax},
		// Names and integers that are too great, wherever they are.
		{"on act{abcdefghi=1;}", 7, api.ErrLimit}, {"on act{v=abcdefghi;}", 9, api.ErrLimit}, {"on act{v=a12345678+$;}", 9, api.ErrLimit}, {"abcdefghi", 0, api.ErrLimit}, {"on abcdefghi", 3, api.ErrLimit}, {"on act{v abcdefghi", 9, api.ErrLimit}, {"on act{}ontickhit", 8, api.ErrLimit}, {"on act{abcdefgh1 =1;}", 7, api.ErrLimit}, {"on act{stop stopstops", 12, api.ErrLimit},
		{"on act{v=2147483648;}", 9, api.ErrRange}, {"on act{v=-2147483648;}", 10, api.ErrRange}, {"on act{v=02147483648;}", 9, api.ErrRange}, {"on act{v=4294967296;}", 9, api.ErrRange}, {"on act{v=18446744073709551616;}", 9, api.ErrRange}, {"on act{v=18446744073709551617;}", 9, api.ErrRange}, {"99999999999", 0, api.ErrRange}, {"on act{v=1 2147483648", 11, api.ErrRange}, {"on act{v=" + strings.Repeat("9", 1900), 9, api.ErrRange},
		// A handler that occurs twice.
		{"on act{}on act{}", 11, api.ErrDup}, {"on hit{}on tick{}on hit", 20, api.ErrDup}, {"on tick{}on act{}on tick$", 20, api.ErrDup}, {"on act{v=tick;stop;}on tick{hit[0]=1;}on hit{}", 0, api.OK},
		// Of several errors the first counts.
		{"$ on", 0, api.ErrSyntax}, {"on act{}on act{abcdefghi=1;}", 11, api.ErrDup}, {"on act{v=$;v=2147483648;}", 9, api.ErrSyntax}, {"on act{v=2147483648;v=$;}", 9, api.ErrRange}, {"on act{v=1<2<2147483648;}", 12, api.ErrSyntax},
	} {
		refuse(t, c.source, c.at, c.code)
	}
}

func TestP13_1_Levels(t *testing.T) {
	for _, c := range []struct{ before, repeated, opener, center, closer, after string }{
		{"v=", "", "(", "1", ")", ";"}, {"v=", "", "!", "1", "", ";"}, {"v=", "", "-", "1", "", ";"}, {"v=", "x", "[", "1", "]", ";"},
		{"v=", "1+", "(", "1", "*2)", ";"}, {"v=w&&", "", "!", "w", "", "||w;"}, {"v=1-", "", "-", "1", "", "-1;"}, {"v=1<", "2*hit", "[", "1", "]/2", ";"},
		{"x[1]=", "y", "[", "1", "]", ";"}, {"", "x", "[", "1", "]", "=1;"}, {"effect ", "", "(", "1", ")", ",1;"}, {"effect 1,", "", "(", "1", ")", ";"},
		{"if ", "", "(", "1", ")", "{}"}, {"while ", "", "!", "w", "", "{}"},
		{"", "if 1", "{", "stop;", "}", ""}, {"", "while 1", "{", "v=1;", "}", ""}, {"", "if 1", "{", "", "}else{}", ""},
	} {
		for levels := 1; levels < 24; levels++ { // beside the handler's block
			step := c.repeated + c.opener
			source := "on act{" + c.before + strings.Repeat(step, levels) + c.center + strings.Repeat(c.closer, levels) + c.after + "}"
			if levels < 20 {
				parse(t, source)
			} else {
				refuse(t, source, len("on act{"+c.before)+20*len(step)-1, api.ErrLimit)
			}
		}
	}
	const choice = "if 1{}else{"
	parse(t, "on act{"+strings.Repeat(choice, 19)+strings.Repeat("}", 20))
	refuse(t, "on act{"+strings.Repeat(choice, 20)+strings.Repeat("}", 21), len("on act{")+19*len(choice)+len("if 1{")-1, api.ErrLimit)
}

func TestP13_1_LevelsOfEachKind(t *testing.T) {
	blocks := strings.Repeat("if w{", 18) // with the handler's block level 19
	tail := strings.Repeat("}", 19)
	for _, c := range []struct {
		text   string
		opener int // the offset of the second of two openers in a row
	}{
		{"v=((1));", 3}, {"v=!!w;", 3}, {"v=--1;", 3}, {"v=-(1);", 3}, {"v=(-1);", 3}, {"v=!(w);", 3}, {"v=(!w);", 3}, {"v=!-1;", 3}, {"v=x[-1];", 4}, {"v=x[(1)];", 4}, {"v=x[!w];", 4}, {"v=-x[1];", 4}, {"v=x[y[1]];", 5},
		{"x[(1)]=1;", 2}, {"x[-1]=1;", 2}, {"x[!w]=1;", 2}, {"x[y[1]]=1;", 3}, {"x[1]=(-1);", 6}, {"x[1]=!!w;", 6},
		{"if w{if w{}}", 9}, {"if w{while w{}}", 12}, {"while w{if w{}}", 12}, {"if w{}else{while w{}}", 18}, {"if w{v=(1);}", 7}, {"if w{v=-1;}", 7}, {"if w{x[1]=1;}", 6}, {"if w{v=!w;}", 7}, {"if (!w){}", 4}, {"if --w{}", 4}, {"while ((w)){}", 7}, {"effect (-1),1;", 8}, {"effect 1,(-1);", 10}, {"if w{if w{}else{}}", 9}, {"if w{effect 1,x[1];}", 15},
	} {
		refuse(t, "on tick{"+blocks+c.text+tail, len("on tick{"+blocks)+c.opener, api.ErrLimit)
		parse(t, "on tick{"+blocks[len("if w{"):]+c.text+tail[1:])
	}
	// At level 20 nothing may be opened, but the rest of the grammar is there.
	deep := "on tick{" + strings.Repeat("if w{", 19)
	parse(t, deep+"v=1-2-w;stop;effect 1,2;v=tick==self;"+strings.Repeat("}", 20))
	for _, text := range []string{"v=(", "v=-", "v=!", "v=x[", "x[", "if w{", "while w{", "v=1+-"} {
		refuse(t, deep+text, len(deep+text)-1, api.ErrLimit)
	}
	for _, text := range []string{"v={", "v=[", "(", "v=1+!", "[", "-", "!", "{", "v=w[", "v=w("} {
		refuse(t, deep+text, len(deep+text)-1, api.ErrSyntax)
	}
}

func TestP13_1_LevelsEnd(t *testing.T) {
	for _, piece := range []string{"v=(1);", "v=-1;", "v=!w;", "v=x[1];", "x[1]=1;", "if w{}", "if w{}else{}", "while w{}", "v=-1-1;", "v=!w&&w;"} {
		parse(t, "on act{"+strings.Repeat(piece, 90)+"}")
		parse(t, "on act{"+strings.Repeat("if w{", 18)+strings.Repeat(piece, 60)+strings.Repeat("}", 19))
	}
	for _, chain := range []string{"(1)+", "-1+", "x[1]*", "!w&&", "!w||", "-1<1&&", "-1--"} {
		parse(t, "on act{v="+strings.Repeat(chain, 90)+"1;}")
	}
	parse(t, "on act{"+strings.Repeat("if w{", 19)+strings.Repeat("}", 20)+"on hit{"+strings.Repeat("if w{", 19)+strings.Repeat("}", 20))
}

func TestP13_1_LongSources(t *testing.T) {
	program := "on act{v=1;}"
	parse(t, program+strings.Repeat(" ", 2000-len(program)))
	parse(t, program+"#"+strings.Repeat("x", 1999-len(program)))
	parse(t, "on act{"+strings.Repeat("v=1;", 498)+"}")
	refuse(t, program+strings.Repeat("\n", 1999-len(program))+"$", 1999, api.ErrSyntax)
	for _, long := range []string{program + strings.Repeat(" ", 2001-len(program)), strings.Repeat("$", 2001), strings.Repeat("on", 2500), "#" + strings.Repeat("é", 1000), strings.Repeat("9", 1<<20), "on act{" + strings.Repeat("v=1;", 500) + "}"} {
		refuse(t, long, 2000, api.ErrLimit)
	}
}

func TestP13_1_AgainstTheGrammar(t *testing.T) {
	rnd := rand.New(rand.NewSource(13))
	codes := map[api.Errno]int{}
	for range 3000 {
		tokens := growProgram(rnd, 120)
		for range rnd.Intn(4) {
			i := rnd.Intn(len(tokens))
			switch rnd.Intn(4) {
			case 0:
				tokens = slices.Delete(tokens, i, i+1)
			case 1:
				tokens = slices.Insert(tokens, i, anyToken(rnd))
			case 2:
				tokens[i] = anyToken(rnd)
			case 3:
				tokens = tokens[:i]
			}
			if len(tokens) == 0 {
				break
			}
		}
		text, offsets := source(tokens, func(must bool) string { return gap(rnd, must) })
		if len(text) > 2000 {
			continue
		}
		at, code := expected(tokens)
		codes[code]++
		if at >= 0 {
			at = offsets[at]
		} else {
			at = 0
		}
		refuse(t, text, at, code)
	}
	for _, code := range []api.Errno{api.OK, api.ErrSyntax, api.ErrDup, api.ErrLimit, api.ErrRange} {
		if codes[code] < 20 {
			t.Errorf("%v came only %d times", code, codes[code])
		}
	}
}

func TestP13_1_DeepAgainstTheGrammar(t *testing.T) {
	rnd := rand.New(rand.NewSource(131))
	pieces := [][]string{{"("}, {"-"}, {"x", "["}, {"(", "!"}, {"1", "*"}, {"-", "1", "*"}, {"1", "+", "("}, {"(", "w", "&&", "!"}, {"(", "!", "w", "||"}, {"(", "1", ")", "/"}, {"x", "[", "-", "w", "<"}, {"y", "[", "-", "1", "]", "*"}}
	limits := 0
	for range 2000 {
		tokens := []string{"on", "hit", "{"}
		for range rnd.Intn(10) {
			tokens = append(tokens, [][]string{{"if", "w", "{"}, {"while", "!", "w", "{"}, {"if", "-", "1", "{", "}", "else", "{"}}[rnd.Intn(3)]...)
		}
		tokens = append(tokens, [][]string{{"v", "="}, {"y", "["}, {"if"}, {"effect", "-", "1", ","}}[rnd.Intn(4)]...)
		for range 8 + rnd.Intn(20) {
			tokens = append(tokens, pieces[rnd.Intn(len(pieces))]...)
		}
		text, offsets := source(tokens, narrow)
		at, code := expected(tokens)
		if code == api.ErrLimit {
			limits++
		}
		refuse(t, text, offsets[at], code)
	}
	if limits < 300 {
		t.Errorf("only %d sources are too deep", limits)
	}
}

func TestP13_1_AnyBytes(t *testing.T) {
	rnd := rand.New(rand.NewSource(132))
	pieces := slices.Concat(symbols, reserved, names, integers, []string{" ", "\n", "#", "$", "\xff", "on act{", "on hit{", "on tick{", "v=1;", "}", "}", ";", ";"})
	for range 20000 {
		var b strings.Builder
		b.WriteString([]string{"", "on act{", "on act{v=", "on tick{if v{"}[rnd.Intn(4)])
		for range rnd.Intn(20) {
			b.WriteString(pieces[rnd.Intn(len(pieces))])
		}
		text := b.String()
		_, at, e := parser.Parse(text)
		switch e {
		case api.OK:
			if at != 0 {
				t.Errorf("%q: offset %d beside OK", text, at)
			}
		case api.ErrSyntax, api.ErrDup, api.ErrLimit, api.ErrRange:
			if at < 0 || at > len(text) {
				t.Fatalf("%q: offset %d", text, at)
			}
			// Nothing is wrong with the tokens before the first error.
			if _, end, before := parser.Parse(text[:at]); before != api.OK && (before != api.ErrSyntax || end != at) {
				t.Errorf("%q: offset %d, but before it offset %d, %v", text, at, end, before)
			}
		default:
			t.Errorf("%q: %v", text, e)
		}
	}
	for c := range 256 {
		text := "on act{v=1" + string([]byte{byte(c)}) + ";}"
		_, at, e := parser.Parse(text)
		switch {
		case strings.IndexByte(" \t\n0123456789", byte(c)) >= 0:
			if e != api.OK {
				t.Errorf("%q: %v", text, e)
			}
		case c == '#':
			if at != len(text) || e != api.ErrSyntax {
				t.Errorf("%q: %d, %v", text, at, e)
			}
		case strings.IndexByte("+-*/<>", byte(c)) >= 0:
			if at != 11 || e != api.ErrSyntax {
				t.Errorf("%q: %d, %v", text, at, e)
			}
		case c == ';':
			if at != 11 || e != api.ErrSyntax {
				t.Errorf("%q: %d, %v", text, at, e)
			}
		default:
			if at != 10 || e != api.ErrSyntax {
				t.Errorf("%q: %d, %v", text, at, e)
			}
		}
	}
}

func TestP13_1_NewMemory(t *testing.T) {
	const text = "on act{if v{v=1+2;}else{x[v]=3;}}"
	first := parse(t, text)
	var spoil func(n *api.Node)
	spoil = func(n *api.Node) {
		for i := range n.Kids {
			spoil(&n.Kids[i])
		}
		n.Kids = append(n.Kids, api.Node{Kind: -1}) // into spare capacity, if there is some
		n.Kind, n.N, n.S = -1, -1, "spoilt"
	}
	want := tell(first.On[0])
	spoil(&first.On[0])
	if got := act(t, text); got != want {
		t.Error(got)
	}
	second := parse(t, text)
	kids := second.On[0].Kids[0].Kids
	kids[1].Kids = append(kids[1].Kids[:1:1], api.Node{})
	kids[0].Kids = append(kids[0].Kids, api.Node{Kind: -1})
	if got, want := tell(kids[2]), "(block (store x (var v) (int 3)))"; got != want {
		t.Error(got)
	}
}

func TestP13_5_TheRestDoesNotCount(t *testing.T) {
	rnd := rand.New(rand.NewSource(135))
	tails := []string{"", " ", "\n", " }", " ;", " 1", " v", " $", " on act{}", " #", " (((((((((((((((((((((((((", " 99999999999", " abcdefghijkl", " \xff\x00"}
	for range 1500 {
		tokens := growProgram(rnd, 80)
		i := rnd.Intn(len(tokens))
		tokens[i] = anyToken(rnd)
		at, code := expected(tokens)
		if at < 0 || at == len(tokens) {
			continue
		}
		text, offsets := source(tokens, func(must bool) string { return gap(rnd, must) })
		head := text[:offsets[at]] + tokens[at]
		if len(text) > 2000 || len(head) > 1900 {
			continue
		}
		refuse(t, text, offsets[at], code)
		for _, tail := range tails {
			refuse(t, head+tail, offsets[at], code)
		}
	}
}

func TestP13_3_Equal(t *testing.T) {
	leaf := func(kind, n int, s string) api.Node { return api.Node{Kind: kind, N: n, S: s} }
	with := func(kids ...api.Node) api.Node { return api.Node{Kind: 1, N: 2, S: "a", Kids: kids} }
	// All of these differ from each other.
	nodes := []api.Node{
		{}, leaf(1, 0, ""), leaf(0, 1, ""), leaf(0, 0, "a"), leaf(0, 0, "b"), leaf(-1, 0, ""), leaf(0, -1, ""), leaf(0, 0, "ab"), leaf(1, 1, ""), leaf(1, 2, "a"),
		with(api.Node{}), with(api.Node{}, api.Node{}), with(leaf(1, 0, "")), with(leaf(0, 1, "")), with(leaf(0, 0, "b")), with(leaf(1, 0, ""), leaf(0, 1, "")), with(leaf(0, 1, ""), leaf(1, 0, "")), with(leaf(1, 0, ""), leaf(1, 0, "")),
		with(with()), with(with(), with()), with(with(with())), with(with(leaf(1, 0, ""))), with(with(leaf(0, 1, ""))), with(with(leaf(0, 0, "c"))), with(with(), leaf(1, 0, "")), with(with(leaf(1, 0, "")), api.Node{}), with(api.Node{}, with(leaf(1, 0, ""))),
		{Kind: 1, N: 2, S: "b", Kids: []api.Node{{}}}, {Kind: 1, N: 3, S: "a", Kids: []api.Node{{}}}, {Kind: 2, N: 2, S: "a", Kids: []api.Node{{}}},
	}
	for i, a := range nodes {
		for j, b := range nodes {
			if parser.Equal(a, b) != (i == j) {
				t.Errorf("%s and %s: %v", tell(a), tell(b), parser.Equal(a, b))
			}
		}
	}
	if !parser.Equal(api.Node{Kids: []api.Node{}}, api.Node{}) || !parser.Equal(with(leaf(1, 0, "x"), with()), with(leaf(1, 0, "x"), with())) {
		t.Error("equal nodes")
	}
}

// chain returns a node with so many descendants, each the only child of the one before, and last at the end.
func chain(descendants, last int) api.Node {
	n := api.Node{N: last}
	for range descendants {
		n = api.Node{Kind: 3, Kids: []api.Node{n}}
	}
	return n
}

func TestP13_3_GreatNodes(t *testing.T) {
	const most = 1 << 16
	if !parser.Equal(chain(most, 7), chain(most, 7)) || parser.Equal(chain(most, 7), chain(most, 8)) || parser.Equal(chain(most, 7), chain(most-1, 7)) || parser.Equal(chain(most-1, 7), chain(most, 7)) {
		t.Error("long chains")
	}
	wide := func(last int) api.Node {
		n := api.Node{Kids: make([]api.Node, most)}
		n.Kids[most-1].N = last
		return n
	}
	if !parser.Equal(wide(1), wide(1)) || parser.Equal(wide(1), wide(2)) {
		t.Error("wide nodes")
	}
	full := api.Node{S: "leaf"}
	for range 15 {
		full = api.Node{Kids: []api.Node{full, full}}
	}
	other := api.Node{Kids: []api.Node{full, full.Kids[0]}}
	if whole := (api.Node{Kids: []api.Node{full}}); !parser.Equal(whole, whole) || parser.Equal(whole, other) || parser.Equal(other, whole) {
		t.Error("full trees")
	}
}

func TestP13_3_Circles(t *testing.T) {
	kids := make([]api.Node, 2)
	kids[0].Kids, kids[1].Kids = kids, kids
	endless := api.Node{Kids: kids}
	parser.Equal(endless, endless) // only that it ends
	if finite := chain(3, 0); parser.Equal(endless, finite) || parser.Equal(finite, endless) {
		t.Error("an endless node equals one that ends")
	}
}
