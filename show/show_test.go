package show_test

import (
	"slices"
	"strings"
	"testing"
	"unsafe"

	"paymaster/api"
	"paymaster/show"
	"paymaster/tree"
)

func whole(n int) tree.Expr                 { return tree.Expr{Op: "whole", Value: n} }
func amount(n int) tree.Expr                { return tree.Expr{Op: "amount", Value: n} }
func percent(n int) tree.Expr               { return tree.Expr{Op: "rate", Value: n} }
func name(s string) tree.Expr               { return tree.Expr{Op: "name", Name: s} }
func neg(a int) tree.Expr                   { return tree.Expr{Op: "neg", A: a} }
func two(op string, a int, b int) tree.Expr { return tree.Expr{Op: op, A: a, B: b} }
func choice(a int, b int, c int) tree.Expr  { return tree.Expr{Op: "if", A: a, B: b, C: c} }

// one is a program of one rule, whose Root is the last one of those Exprs.
func one(exprs ...tree.Expr) tree.Program {
	return tree.Program{Rules: []tree.Rule{{Kind: "let", Name: "a", Root: len(exprs) - 1}}, Exprs: exprs}
}

// read is the program that is read of a text without a fault.
func read(t *testing.T, s string) tree.Program {
	t.Helper()
	p, at, e := tree.Parse(s)
	if e != api.OK {
		t.Fatalf("Parse(%.300q): %d, %d", s, at, e)
	}
	return p
}

// checkText: what is read of s has that text.
func checkText(t *testing.T, s string, want string) {
	t.Helper()
	if got, e := show.Text(read(t, s)); got != want || e != api.OK {
		t.Errorf("Text of %.300q: %q, %d; want %q", s, got, e, want)
	}
}

// checkExpr: a rule of that expression has that text of it; so has its Root alone.
func checkExpr(t *testing.T, s string, want string) {
	t.Helper()
	checkText(t, "let a = "+s+";", "let a = "+want+";\n")
	p := read(t, "let a = "+s+";")
	if got, e := show.Expr(p, len(p.Exprs)-1); got != want || e != api.OK {
		t.Errorf("Expr of %.300q: %q, %d; want %q", s, got, e, want)
	}
}

// checkNone: p has no text, nor has any of its Exprs.
func checkNone(t *testing.T, p tree.Program) {
	t.Helper()
	if s, e := show.Text(p); s != "" || e != api.ErrArg {
		t.Errorf("Text(%v) = %q, %d; want ErrArg", p, s, e)
	}
	for _, i := range []int{0, len(p.Exprs) - 1, len(p.Exprs), -1} {
		if s, e := show.Expr(p, i); s != "" || e != api.ErrArg {
			t.Errorf("Expr(%v, %d) = %q, %d; want ErrArg", p, i, s, e)
		}
	}
}

// P9.1: a line for each rule, of all four kinds, in order; there may be two of one name.
func TestRules(t *testing.T) {
	checkText(t, "let a=(1+2)*b;", "let a = (1 + 2) * b;\n")
	checkText(t, "earn pay=base;pretax x2=1.00+2.00;post abcdefghijkl=-5;let pay=1;earn a=3;",
		"earn pay = base;\npretax x2 = 1.00 + 2.00;\npost abcdefghijkl = -5;\nlet pay = 1;\nearn a = 3;\n")
	checkText(t, strings.Repeat("post b=1;", 60), strings.Repeat("post b = 1;\n", 60))
}

// P9.1: blanks, bytes 10, comments and () that turn nothing are not told; what is wanted is, once.
func TestLooks(t *testing.T) {
	want := "earn a = if b < 1 then min(2, c) else (d + 3) * 4.00;\nlet e = 5 - 10.00%;\n"
	for _, s := range []string{
		want,
		"earn a=if b<1then min(2,c)else(d+3)*4.00;let e=5-10.00%;",
		"  earn a\n=if(b<1)then\nmin  ( 2 ,c ) else (d  +  3)  * 4.00\n;\n\nlet e = 5\n-\n10.00% ;  ",
		"# first\nearn a = if ((b)) < (1) then ((min((2), (c)))) else ((d + (3)) * (4.00)); # second\nlet e = ((5) - 10.00%);# end",
		"earn a = (if (b < 1) then (min(2, c)) else ((d + 3) * 4.00)); let e = (5 - (10.00%));",
	} {
		checkText(t, s, want)
	}
}

// P9.1: a program of no rules has an empty text, be its lists nil or not, and no expressions.
func TestNoRules(t *testing.T) {
	for _, p := range []tree.Program{{}, {Rules: []tree.Rule{}}, {Exprs: []tree.Expr{}}, read(t, ""), read(t, " # let a = 1;\n")} {
		if s, e := show.Text(p); s != "" || e != api.OK {
			t.Errorf("Text of no rules: %q, %d", s, e)
		}
		for _, i := range []int{-1, 0, 1} {
			if s, e := show.Expr(p, i); s != "" || e != api.ErrArg {
				t.Errorf("Expr of no rules, %d: %q, %d", i, s, e)
			}
		}
	}
}

// P9.1: the Ops of no parts, up to the limits of their numbers, and just behind these.
func TestLeaves(t *testing.T) {
	for want, x := range map[string]tree.Expr{
		"0": whole(0), "7": whole(7), "10": whole(10), "999999999": whole(999999999),
		"0.00": amount(0), "0.05": amount(5), "1.50": amount(150), "92233720368547758.07": amount(api.Most),
		"0.00%": percent(0), "0.05%": percent(5), "12.50%": percent(1250), "100.00%": percent(api.Whole),
		"a": name("a"), "base": name("base"), "z9": name("z9"), "abcdefghijkl": name("abcdefghijkl"), "whole": name("whole"), "neg": name("neg"), "lets": name("lets"),
	} {
		if s, e := show.Text(one(x)); s != "let a = "+want+";\n" || e != api.OK {
			t.Errorf("Text of %v: %q, %d", x, s, e)
		}
		if s, e := show.Expr(one(x), 0); s != want || e != api.OK {
			t.Errorf("Expr of %v: %q, %d", x, s, e)
		}
	}
	for _, x := range []tree.Expr{
		whole(-1), whole(1000000000), whole(api.Most), whole(-api.Most - 1), whole(-1000000000),
		amount(-1), amount(-5), amount(-api.Most), amount(-api.Most - 1),
		percent(-1), percent(api.Whole + 1), percent(api.Most), percent(-api.Most - 1),
		name(""), name("abcdefghijklm"), name("A"), name("9"), name("9a"), name("a b"), name(" a"), name("a "), name("a\n"), name("a#"), name("(a)"), name("-a"), name("a+b"), name("min(a, b)"), name("a;let b = 1"), name("1.00"), name("ä"), name("a\x00"),
		name("if"), name("then"), name("else"), name("min"), name("max"), name("earn"), name("pretax"), name("post"), name("let"),
	} {
		checkNone(t, one(x))
	}
}

// P9.1: the Ops with parts.
func TestOps(t *testing.T) {
	checkExpr(t, "-x", "-x")
	checkExpr(t, "- - x", "--x")
	for _, op := range []string{"+", "-", "*", "<", "<=", "=", "<>", ">", ">="} {
		checkExpr(t, "x"+op+"2", "x "+op+" 2")
		checkExpr(t, "-x"+op+"-2", "-x "+op+" -2")
	}
	checkExpr(t, "min(x,2)", "min(x, 2)")
	checkExpr(t, "max ( x ,2)", "max(x, 2)")
	checkExpr(t, "if(x)then(2)else(3.00%)", "if x then 2 else 3.00%")
}

// P9.1: what a part stands in () of, and what it does not, by texts written by hand.
func TestInner(t *testing.T) {
	for s, want := range map[string]string{
		"-(a+b)": "-(a + b)", "-(a-b)": "-(a - b)", "-(a*b)": "-(a * b)", "-(a<b)": "-(a < b)", "-(if a then b else c)": "-(if a then b else c)",
		"-(-a)": "--a", "-(1)": "-1", "-(min(a,b))": "-min(a, b)", "-(a)": "-a", "-(1.00%)": "-1.00%", "-(2.00)": "-2.00",
		"(-a)*(-b)": "-a * -b", "-a*b": "-a * b", "(-a)+(-b)": "-a + -b", "(-a)-(-b)": "-a - -b",
		"(a+b)*(c-d)": "(a + b) * (c - d)", "a*b*c": "a * b * c", "(a*b)*c": "a * b * c", "a*(b*c)": "a * (b * c)", "a*(b*c)*d": "a * (b * c) * d",
		"(a<b)*c": "(a < b) * c", "a*(b<c)": "a * (b < c)", "(if a then b else c)*d": "(if a then b else c) * d", "a*(if b then c else d)": "a * (if b then c else d)",
		"(a*b)+(c*d)": "a * b + c * d", "a+b+c": "a + b + c", "(a+b)-c": "a + b - c", "a+(b+c)": "a + (b + c)", "a-(b-c)": "a - (b - c)", "a-(b+c)": "a - (b + c)", "a+(b-c)": "a + (b - c)",
		"(a=b)+c": "(a = b) + c", "a-(b>=c)": "a - (b >= c)", "(if a then b else c)-d": "(if a then b else c) - d", "a+(if b then c else d)": "a + (if b then c else d)",
		"(a+b)<(c-d)": "a + b < c - d", "(a*b)>(c)": "a * b > c", "(a<b)<c": "(a < b) < c", "a<(b<c)": "a < (b < c)", "(a=b)<>(c=d)": "(a = b) <> (c = d)",
		"(if a then b else c)=d": "(if a then b else c) = d", "a<=(if b then c else d)": "a <= (if b then c else d)",
		"min((a<b),(if c then d else e))": "min(a < b, if c then d else e)", "max((a+b),(-c))": "max(a + b, -c)", "min((max((a),b)),(c*d))": "min(max(a, b), c * d)",
		"if(a<b)then(c+d)else(e=f)": "if a < b then c + d else e = f", "if(if a then b else c)then(if d then e else f)else(if g then h else i)": "if if a then b else c then if d then e else f else if g then h else i",
		"if(-a)then(min(b,c))else(d*e)": "if -a then min(b, c) else d * e",
	} {
		checkExpr(t, s, want)
	}
}

// putAround adds to those Exprs one of that Op, which has the last one as its part at that place, and leaves as the others.
func putAround(exprs []tree.Expr, op string, place int) []tree.Expr {
	count := len(partsOf(tree.Expr{Op: op}))
	var there [3]int
	all := []tree.Expr{}
	for i := range count {
		if i != place {
			all = append(all, name([]string{"x", "y", "z"}[i]))
			there[i] = len(all) - 1
			continue
		}
		shift := len(all)
		for _, x := range exprs {
			parts := [3]*int{&x.A, &x.B, &x.C}
			for j := range partsOf(x) {
				*parts[j] += shift
			}
			all = append(all, x)
		}
		there[i] = len(all) - 1
	}
	return append(all, tree.Expr{Op: op, A: there[0], B: there[1], C: there[2]})
}

// simple are the Exprs of one of that Op, whose parts, if it has some, are leaves.
func simple(op string) []tree.Expr {
	switch op {
	case "whole":
		return []tree.Expr{whole(12)}
	case "amount":
		return []tree.Expr{amount(1205)}
	case "rate":
		return []tree.Expr{percent(1205)}
	case "name":
		return []tree.Expr{name("b")}
	}
	return putAround([]tree.Expr{name("b")}, op, 0)
}

// P9.1: each Op as each part of each other one, and of one in one more: () where it would be read otherwise without, and only there.
func TestOneInAnother(t *testing.T) {
	for op := range strings.FieldsSeq(ops) {
		check(t, one(simple(op)...))
		for around := range strings.FieldsSeq(ops) {
			for place := range partsOf(tree.Expr{Op: around}) {
				exprs := putAround(simple(op), around, place)
				p := one(exprs...)
				if !check(t, p) {
					t.Errorf("%v has no text", p)
				}
				checkBare(t, p)
				for outer := range strings.FieldsSeq(ops) {
					for at := range partsOf(tree.Expr{Op: outer}) {
						check(t, one(putAround(exprs, outer, at)...))
					}
				}
			}
		}
	}
}

// shutBy is where the ( at the place is shut.
func shutBy(s string, open int) int {
	n := 0
	for i := open; i < len(s); i++ {
		switch s[i] {
		case '(':
			n++
		case ')':
			n--
		}
		if n == 0 {
			return i
		}
	}
	panic("not shut")
}

// checkBare: each () of p's text, but those of min and max, is one without which another program is read, or none.
func checkBare(t *testing.T, p tree.Program) {
	t.Helper()
	s, e := show.Text(p)
	if e != api.OK || !same(read(t, s), p) {
		t.Fatalf("Text(%v) = %q, %d", p, s, e)
	}
	for i := range len(s) {
		if s[i] != '(' || strings.HasSuffix(s[:i], "min") || strings.HasSuffix(s[:i], "max") {
			continue
		}
		shut := shutBy(s, i)
		bare := s[:i] + " " + s[i+1:shut] + " " + s[shut+1:]
		if q, _, e := tree.Parse(bare); e == api.OK && same(p, q) {
			t.Errorf("%q is read like %q", bare, s)
		}
	}
}

// deeper is by how much a part of that place and Op is deeper than what it is a part of.
func deeper(op string, place int, part string) int {
	n := 0
	if among(op, " neg min max if ") {
		n++
	}
	if brackets(op, place, part) {
		n++
	}
	return n
}

// P9.1: a program whose text is 20 deep has it, one whose text would be 21 deep has none.
func TestDepth(t *testing.T) {
	for op := range strings.FieldsSeq(ops) {
		for place := range partsOf(tree.Expr{Op: op}) {
			for inner := range strings.FieldsSeq("name neg if + *") {
				exprs, depth := simple(inner), 1+deeper(inner, 0, "name")
				for part := inner; len(exprs) < 70; part = op {
					if check(t, one(exprs...)) != (depth <= 20) {
						t.Fatalf("%v is %d deep", exprs, depth)
					}
					exprs, depth = putAround(exprs, op, place), depth+deeper(op, place, part)
				}
			}
		}
	}
	for _, c := range []struct{ ahead, behind string }{{"-", ""}, {"min(", ", 1)"}, {"max(1, ", ")"}, {"2 * (1 + ", ")"}, {"if ", " then 1 else 2"}, {"if 1 then 2 else ", ""}} {
		s := strings.Repeat(c.ahead, 19) + "1" + strings.Repeat(c.behind, 19)
		checkExpr(t, s, s)
		p := read(t, "let a = "+s+";")
		p.Exprs = putAround(p.Exprs, "neg", 0)
		p.Rules[0].Root++
		checkNone(t, p)
	}
	checkExpr(t, strings.Repeat("(", 19)+"1 + 2"+strings.Repeat(")", 19), "1 + 2")
	checkExpr(t, strings.Repeat("(", 19)+"1 + 2"+strings.Repeat(")", 19)+" * 3", "(1 + 2) * 3")
}

// P9.1: as many rules as are read, and one more.
func TestHowManyRules(t *testing.T) {
	for _, n := range []int{1, 2, 59, 60, 61, 62, 1000} {
		var p tree.Program
		for i := range n {
			p.Rules = append(p.Rules, tree.Rule{Kind: "earn", Name: "b", Root: i})
			p.Exprs = append(p.Exprs, whole(i))
		}
		if check(t, p) != (n <= 60) {
			t.Errorf("%d rules", n)
		}
	}
}

// P9.1: Expr answers the text of that one alone, without () around it, wherever it stands.
func TestExpr(t *testing.T) {
	p := read(t, "earn a = (b + 1) * -(2.00 - c);\nlet d = if a < 3 then max(4.00%, -5) else (6 = e);")
	for i, want := range []string{"b", "1", "b + 1", "2.00", "c", "2.00 - c", "-(2.00 - c)", "(b + 1) * -(2.00 - c)", "a", "3", "a < 3", "4.00%", "5", "-5", "max(4.00%, -5)", "6", "e", "6 = e", "if a < 3 then max(4.00%, -5) else 6 = e"} {
		if s, e := show.Expr(p, i); s != want || e != api.OK {
			t.Errorf("Expr(.., %d) = %q, %d; want %q", i, s, e, want)
		}
	}
	for _, i := range []int{-1, -2, len(p.Exprs), len(p.Exprs) + 1, api.Most, -api.Most - 1} {
		if s, e := show.Expr(p, i); s != "" || e != api.ErrArg {
			t.Errorf("Expr(.., %d) = %q, %d", i, s, e)
		}
	}
	p.Exprs[0].Value = 1
	for i := -1; i <= len(p.Exprs); i++ {
		if s, e := show.Expr(p, i); s != "" || e != api.ErrArg {
			t.Errorf("Expr of none, %d: %q, %d", i, s, e)
		}
	}
}

// P9.1: what reads a program of the whole text of a rule, but not p, is none: a Kind, an Op or a Name that is none.
func TestWrongWords(t *testing.T) {
	for _, w := range []string{"", " ", "lets", "Let", "LET", "let ", " let", "let\n", "if", "min", "earn a = 1; let", "#", "1", "=", "\x00", strings.Repeat("let", 1000)} {
		checkNone(t, tree.Program{Rules: []tree.Rule{{Kind: w, Name: "a"}}, Exprs: []tree.Expr{whole(1)}})
	}
	for _, w := range []string{"", " ", "A", "1", "a b", "a ", " a", "if", "then", "else", "min", "max", "earn", "pretax", "post", "let", "abcdefghijklm", "a = 1; let b", "a#\n", "=", "a\n", strings.Repeat("a", 1000)} {
		checkNone(t, tree.Program{Rules: []tree.Rule{{Kind: "let", Name: w}}, Exprs: []tree.Expr{whole(1)}})
	}
	for _, w := range []string{"", " ", "Whole", "number", "percent", "word", "a", "1", "(", ")", "then", "else", "and", "/", "==", "!=", "=<", "=>", "><", "--", "* ", " *", "Min", "min(", "let", "if ", "\x00"} {
		checkNone(t, one(tree.Expr{Op: w}))
		checkNone(t, one(tree.Expr{Op: w, Value: 1, Name: "a"}))
		checkNone(t, one(whole(1), whole(2), two(w, 0, 1)))
		checkNone(t, one(whole(1), tree.Expr{Op: w}))
	}
}

// P9.1: a part that is not there, not ahead, or a part of two; Exprs in another order; a Root that is not there.
func TestWrongPlaces(t *testing.T) {
	lets := func(exprs []tree.Expr, roots ...int) tree.Program {
		p := tree.Program{Exprs: exprs}
		for _, r := range roots {
			p.Rules = append(p.Rules, tree.Rule{Kind: "let", Name: "a", Root: r})
		}
		return p
	}
	for _, at := range []int{-1, 1, 2, 3, api.Most, -api.Most - 1} {
		checkNone(t, one(whole(1), neg(at)))
		checkNone(t, lets([]tree.Expr{whole(1)}, at))
		checkNone(t, lets([]tree.Expr{whole(1), whole(2)}, 0, at+1))
	}
	for _, p := range []tree.Program{
		lets(nil, 0), lets([]tree.Expr{whole(1)}), lets([]tree.Expr{whole(1), whole(2)}, 0), lets([]tree.Expr{whole(1), whole(2)}, 1), lets([]tree.Expr{whole(1), whole(2)}, 1, 0), lets([]tree.Expr{whole(1)}, 0, 0), lets([]tree.Expr{whole(1), whole(2)}, 0, 0), lets([]tree.Expr{whole(1), whole(2)}, 0, 1, 1),
		one(neg(0)), one(neg(1), whole(1)), one(two("+", 0, 0)), one(two("+", 0, 1), whole(1)), one(choice(0, 0, 0)), one(whole(1), two("+", 1, 0)), one(neg(1), neg(0)),
		one(whole(1), two("+", 0, 0)), one(whole(1), two("min", 0, 0)), one(whole(1), choice(0, 0, 0)), one(whole(1), whole(2), choice(0, 1, 1)), one(whole(1), neg(0), two("*", 0, 1)), one(whole(1), neg(0), two("*", 1, 1)),
		one(whole(1), whole(2), two("+", 1, 0)), one(whole(1), whole(2), whole(3), choice(0, 2, 1)), one(whole(1), whole(2), whole(3), choice(2, 1, 0)), one(whole(1), whole(2), neg(0), two("+", 2, 1)), one(whole(1), whole(2), neg(1), two("+", 2, 0)),
		one(whole(1), whole(2), neg(1)), one(whole(1), whole(2), whole(3), two("+", 1, 2)), one(whole(1), whole(2), whole(3), two("+", 0, 2)),
		lets([]tree.Expr{whole(1), whole(2), neg(0), neg(1)}, 2, 3), lets([]tree.Expr{whole(1), whole(2), neg(1), neg(0)}, 3, 2), lets([]tree.Expr{whole(1), whole(2), neg(0)}, 1, 2), lets([]tree.Expr{whole(1), neg(0)}, 0), lets([]tree.Expr{whole(1), neg(0)}, 0, 1), lets([]tree.Expr{whole(1), neg(0), neg(0)}, 1, 2),
	} {
		if check(t, p) {
			t.Errorf("%v has a text", p)
		}
		checkNone(t, p)
	}
}

// P9.1: fields that an Op has not.
func TestWrongFields(t *testing.T) {
	for op := range strings.FieldsSeq(ops) {
		right := one(simple(op)...)
		last := len(right.Exprs) - 1
		count := len(partsOf(right.Exprs[last]))
		for _, n := range []int{1, -1, 2, api.Most} {
			for place := range 3 {
				if place >= count {
					p := one(slices.Clone(right.Exprs)...)
					x := &p.Exprs[last]
					*[]*int{&x.A, &x.B, &x.C}[place] = n
					checkNone(t, p)
				}
			}
			if count > 0 || op == "name" {
				p := one(slices.Clone(right.Exprs)...)
				p.Exprs[last].Value = n
				checkNone(t, p)
			}
		}
		if op != "name" {
			for _, s := range []string{"a", "b", op, " "} {
				p := one(slices.Clone(right.Exprs)...)
				p.Exprs[last].Name = s
				checkNone(t, p)
			}
		}
	}
}

// rights are texts without a fault, with much in them.
func rights() []string {
	return []string{
		"earn a = if hours > 10 then 2.00 * hours else -(b - 1) + 3;\npretax c = min(a, 50.00%);",
		"let a = 1 + 2 * b; let b = (1 + 2) * b; post c = -(1 - -2) * 3 - 4;",
		"earn x = if if a < 1 then b else c = 2 then max(1.00, min(2.00, y)) else if d then (e) else f <> g;",
		"pretax p=base*12.50%;post q=min(max(0,1),(2)*3)+-4;# end",
		"let a = ((((1)))) >= (2 <= 3); let a = 1 * 2 * 3 + 4 * 5 - 6 - (7 - 8) > 9;",
		"earn a = max(if a then b else c, (if d then e else f) + 1); earn b = ---x;",
	}
}

// P9.1: right programs, with each of their fields turned, one or two at a time; some of these are right, too.
func TestTurnedPrograms(t *testing.T) {
	words := strings.Fields(ops + kinds + "a abcdefghijklm 1 (")
	g := strewn{last: 91}
	right, wrong := 0, 0
	tell := func(p tree.Program) {
		if check(t, p) {
			right++
		} else {
			wrong++
		}
	}
	for _, s := range rights() {
		p := read(t, s)
		for i := range p.Exprs {
			for _, turn := range []func(x *tree.Expr){
				func(x *tree.Expr) { x.A-- }, func(x *tree.Expr) { x.A++ }, func(x *tree.Expr) { x.B-- }, func(x *tree.Expr) { x.B++ }, func(x *tree.Expr) { x.C-- }, func(x *tree.Expr) { x.C++ },
				func(x *tree.Expr) { x.Value-- }, func(x *tree.Expr) { x.Value++ }, func(x *tree.Expr) { x.A, x.B = x.B, x.A }, func(x *tree.Expr) { x.B, x.C = x.C, x.B },
				func(x *tree.Expr) { x.A, x.B, x.C = i, i, i }, func(x *tree.Expr) { *x = p.Exprs[0] }, func(x *tree.Expr) { x.Op = words[g.below(len(words))]; x.Name = words[g.below(len(words))] },
			} {
				q := tree.Program{Rules: p.Rules, Exprs: slices.Clone(p.Exprs)}
				turn(&q.Exprs[i])
				tell(q)
				turn(&q.Exprs[g.below(len(q.Exprs))])
				tell(q)
			}
			for _, w := range words {
				q := tree.Program{Rules: p.Rules, Exprs: slices.Clone(p.Exprs)}
				q.Exprs[i].Op = w
				tell(q)
				q = tree.Program{Rules: p.Rules, Exprs: slices.Clone(p.Exprs)}
				q.Exprs[i].Name = w
				tell(q)
			}
			tell(tree.Program{Rules: p.Rules, Exprs: slices.Delete(slices.Clone(p.Exprs), i, i+1)})
			tell(tree.Program{Rules: p.Rules, Exprs: slices.Insert(slices.Clone(p.Exprs), i, whole(1))})
			for j := range p.Rules {
				rules := slices.Clone(p.Rules)
				rules[j].Root = i
				tell(tree.Program{Rules: rules, Exprs: p.Exprs})
			}
		}
	}
	if right < 300 || wrong < 3000 {
		t.Errorf("%d of them are right, %d wrong", right, wrong)
	}
}

// strewn makes numbers that are the same each time, and expressions by them, of that many factors, or a few more.
type strewn struct {
	last    uint64
	factors int
}

func (g *strewn) below(n int) int {
	g.last = g.last*6364136223846793005 + 1442695040888963407
	return int(g.last >> 33 % uint64(n))
}

// blanks is what may lie between two tokens, or nothing.
func (g *strewn) blanks() string {
	return []string{"", "", " ", "\n", "  ", "# (\n"}[g.below(6)]
}

// expression is a text in which that many lie around one another, at most.
func (g *strewn) expression(around int) string {
	if around > 0 && g.factors > 0 && g.below(6) == 0 {
		return "if " + g.expression(around-1) + " then " + g.expression(around-1) + " else " + g.expression(around-1)
	}
	s := g.sum(around)
	if g.below(4) == 0 {
		s += strings.Fields(compares)[g.below(6)] + g.blanks() + g.sum(around)
	}
	return s
}

func (g *strewn) sum(around int) string {
	s := g.factor(around)
	for g.below(5) < 2 {
		s += g.blanks() + []string{"+", "-", "*"}[g.below(3)] + g.blanks() + g.factor(around)
	}
	return s
}

func (g *strewn) factor(around int) string {
	g.factors--
	which := g.below(9)
	if around == 0 || g.factors < 0 {
		which = 0
	}
	switch which {
	case 1, 2:
		return "-" + g.blanks() + g.factor(around-1)
	case 3, 4, 5:
		return "(" + g.blanks() + g.expression(around-1) + ")"
	case 6:
		return "min(" + g.expression(around-1) + "," + g.blanks() + g.expression(around-1) + ")"
	case 7:
		return "max" + g.blanks() + "(" + g.expression(around-1) + "," + g.expression(around-1) + ")"
	}
	return []string{"a", "b2", "0", "17", "3.05", "7.50%"}[g.below(6)]
}

// rule is one of that many factors, or a few more.
func (g *strewn) rule(factors int, around int) string {
	g.factors = factors
	return strings.Fields(kinds)[g.below(4)] + " r" + g.blanks() + "=" + g.expression(around) + g.blanks() + ";"
}

// P9.1, P9.2: what is read of any text has a text, that is read to it, and that text's text is it.
func TestThereAndBack(t *testing.T) {
	l := append(rights(), "", " ", "# nothing", strings.Repeat("let a=1;", 60))
	g := strewn{last: 92}
	for range 800 {
		s := ""
		for range 1 + g.below(3) {
			s += g.rule(g.below(50), g.below(19)) + g.blanks()
		}
		l = append(l, s)
	}
	for _, s := range l {
		p := read(t, s)
		if !check(t, p) {
			t.Fatalf("what is read of %q has no text", s)
		}
		text, _ := show.Text(p)
		q := read(t, text)
		if !same(p, q) {
			t.Fatalf("%q is read otherwise than %q", text, s)
		}
		if again, e := show.Text(q); again != text || e != api.OK {
			t.Fatalf("Text of %q: %q, %d", text, again, e)
		}
		if len(p.Exprs) < 80 {
			checkBare(t, p)
		}
	}
}

// P9.2: the text of an expression is that of a rule that has it alone.
func TestExprThereAndBack(t *testing.T) {
	g := strewn{last: 93}
	for range 300 {
		p := read(t, g.rule(g.below(30), g.below(12)))
		for i := range p.Exprs {
			s, e := show.Expr(p, i)
			if e != api.OK {
				t.Fatalf("Expr(%v, %d): %d", p, i, e)
			}
			q := read(t, "let a = "+s+";")
			if again, e := show.Text(q); again != "let a = "+s+";\n" || e != api.OK {
				t.Fatalf("Text of %q: %q, %d", s, again, e)
			}
			if q.Exprs[len(q.Exprs)-1].Op != p.Exprs[i].Op {
				t.Fatalf("%q is of another Op than %v", s, p.Exprs[i])
			}
		}
	}
}

// P1: long sums have their texts; programs that go round, or into one part many times, end.
func TestLongPrograms(t *testing.T) {
	many := 1 << 16
	s := "let a = 1" + strings.Repeat(" + -1 * (2 - 3)", many) + ";\n"
	checkText(t, s, s)
	s = "1" + strings.Repeat(" * 2", 2*many)
	checkExpr(t, s, s)
	double, chain, sumUp := []tree.Expr{name("x")}, []tree.Expr{name("x")}, []tree.Expr{name("x")}
	for i := range many {
		double = append(double, two("+", i, i))
		chain = append(chain, neg(i))
		sumUp = append(sumUp, whole(1), two("+", 2*i+1, 2*i))
	}
	checkNoText(t, one(double...))
	checkNoText(t, one(double[:64]...))
	checkNoText(t, one(chain...))
	checkNoText(t, one(sumUp...))
	checkNoText(t, one(name(strings.Repeat("x", many))))
	checkNoText(t, tree.Program{Rules: make([]tree.Rule, many), Exprs: []tree.Expr{whole(1)}})
}

// checkNoText is checkNone, without the whole of p in what a fault tells.
func checkNoText(t *testing.T, p tree.Program) {
	t.Helper()
	if s, e := show.Text(p); s != "" || e != api.ErrArg {
		t.Errorf("Text: %d bytes, %d", len(s), e)
	}
	if s, e := show.Expr(p, 0); s != "" || e != api.ErrArg {
		t.Errorf("Expr: %d bytes, %d", len(s), e)
	}
}

// R1: a program stays as it was, up to what lies behind its lists, and a text is new memory.
func TestNothingKept(t *testing.T) {
	long := strings.Repeat("abc", 4)
	p := read(t, "earn "+long+" = -"+long+" * (2 + 3); let b = "+long+";")
	p.Exprs[0].Name, p.Exprs[len(p.Exprs)-1].Name = long, long
	rules, exprs := append(slices.Clone(p.Rules), tree.Rule{Kind: "k"}), append(slices.Clone(p.Exprs), tree.Expr{Op: "o"}, tree.Expr{Op: "o"})
	full := tree.Program{Rules: rules[:len(p.Rules)], Exprs: exprs[:len(p.Exprs)]}
	wasRules, wasExprs := slices.Clone(rules), slices.Clone(exprs)
	s, _ := show.Text(full)
	x, e := show.Expr(full, 0)
	if x != long || e != api.OK || !slices.Equal(rules, wasRules) || !slices.Equal(exprs, wasExprs) {
		t.Errorf("Expr(.., 0) = %q, %d; and then %v, %v", x, e, rules, exprs)
	}
	if unsafe.StringData(x) == unsafe.StringData(long) {
		t.Error("the text of a name is the Name's memory")
	}
	exprs[0].Name, rules[0].Name = "zz", "zz"
	if again, _ := show.Text(p); again != s || !strings.HasPrefix(s, "earn abcabcabcabc = -abcabcabcabc * (2 + 3);\nlet b = ") {
		t.Errorf("%q, then %q", s, again)
	}
}
