package tree_test

import (
	"slices"
	"strings"
	"testing"
	"unsafe"

	"paymaster/api"
	"paymaster/lex"
	"paymaster/tree"
)

func whole(n int) tree.Expr                 { return tree.Expr{Op: "whole", Value: n} }
func amount(n int) tree.Expr                { return tree.Expr{Op: "amount", Value: n} }
func percent(n int) tree.Expr               { return tree.Expr{Op: "rate", Value: n} }
func name(s string) tree.Expr               { return tree.Expr{Op: "name", Name: s} }
func neg(a int) tree.Expr                   { return tree.Expr{Op: "neg", A: a} }
func two(op string, a int, b int) tree.Expr { return tree.Expr{Op: op, A: a, B: b} }
func choice(a int, b int, c int) tree.Expr  { return tree.Expr{Op: "if", A: a, B: b, C: c} }

// checkExprs: the text of one expression has those Exprs, the last of which is its root.
func checkExprs(t *testing.T, s string, want ...tree.Expr) {
	t.Helper()
	text := "let a = " + s + ";"
	rules := []tree.Rule{{Kind: "let", Name: "a", Root: len(want) - 1}}
	got, place, e := tree.Parse(text)
	if !slices.Equal(got.Rules, rules) || !slices.Equal(got.Exprs, want) || place != 0 || e != api.OK {
		t.Errorf("Parse(%.300q) = %v, %d, %d; want %v, %v", text, got, place, e, rules, want)
	}
}

// checkFault: the text has that error, at that place, and nothing else.
func checkFault(t *testing.T, s string, at int, want api.Errno) {
	t.Helper()
	if got, place, e := tree.Parse(s); len(got.Rules) != 0 || len(got.Exprs) != 0 || place != at || e != want {
		t.Errorf("Parse(%.300q) = %v, %d, %d; want nothing, %d, %d", s, got, place, e, at, want)
	}
}

// P8.1: rules of all four kinds, in order, with names of 1 to 12 bytes; there may be two of one name.
func TestRules(t *testing.T) {
	s := "earn pay = base;\npretax x2 = 1.00 + 2.00;# and\n\npost abcdefghijkl = -5;let pay=1;earn a = 3;"
	got, place, e := tree.Parse(s)
	rules := []tree.Rule{{"earn", "pay", 0}, {"pretax", "x2", 3}, {"post", "abcdefghijkl", 5}, {"let", "pay", 6}, {"earn", "a", 7}}
	exprs := []tree.Expr{name("base"), amount(100), amount(200), two("+", 1, 2), whole(5), neg(4), whole(1), whole(3)}
	if !slices.Equal(got.Rules, rules) || !slices.Equal(got.Exprs, exprs) || place != 0 || e != api.OK {
		t.Errorf("Parse(%q) = %v, %d, %d; want %v, %v", s, got, place, e, rules, exprs)
	}
}

// P8.1: a text without tokens is no rules.
func TestNoRules(t *testing.T) {
	for _, s := range []string{"", " ", "\n", " \n \n", "#", "# nothing\n", "# let a = 1;", "#;\n # )\n"} {
		checkFault(t, s, 0, api.OK)
	}
}

// P8.1: each Op of no parts, with its Value or its Name.
func TestLeaves(t *testing.T) {
	checkExprs(t, "0", whole(0))
	checkExprs(t, "7", whole(7))
	checkExprs(t, "999999999", whole(999999999))
	checkExprs(t, "0.00", amount(0))
	checkExprs(t, "0.05", amount(5))
	checkExprs(t, "12.30", amount(1230))
	checkExprs(t, "92233720368547758.07", amount(api.Most))
	checkExprs(t, "0.00%", percent(0))
	checkExprs(t, "12.50%", percent(1250))
	checkExprs(t, "100.00%", percent(api.Whole))
	for _, s := range []string{"b", "a", "z9", "abcdefghijkl", "whole", "amount", "rate", "name", "neg", "i", "ifs", "if1", "the", "els", "mi", "minx", "min1", "max0", "lets", "earns", "pretaxe", "posts", "taxes", "pre"} {
		checkExprs(t, s, name(s))
	}
}

// P8.1: the Ops with parts, each with its fields.
func TestOps(t *testing.T) {
	checkExprs(t, "- x", name("x"), neg(0))
	for _, op := range []string{"+", "-", "*", "<", "<=", "=", "<>", ">", ">="} {
		checkExprs(t, "x "+op+" 2", name("x"), whole(2), two(op, 0, 1))
		checkExprs(t, "x"+op+"2", name("x"), whole(2), two(op, 0, 1))
	}
	checkExprs(t, "min(x, 2)", name("x"), whole(2), two("min", 0, 1))
	checkExprs(t, "max ( x,2 )", name("x"), whole(2), two("max", 0, 1))
	checkExprs(t, "if x then 2 else 3.00%", name("x"), whole(2), percent(300), choice(0, 1, 2))
}

// P8.1: sums and products begin on the left; products bind more than sums, sums more than comparisons.
func TestSumsAndProducts(t *testing.T) {
	checkExprs(t, "1 + 2 * b", whole(1), whole(2), name("b"), two("*", 1, 2), two("+", 0, 3))
	checkExprs(t, "1 * 2 + b", whole(1), whole(2), two("*", 0, 1), name("b"), two("+", 2, 3))
	checkExprs(t, "1 + 2 + 3 + 4", whole(1), whole(2), two("+", 0, 1), whole(3), two("+", 2, 3), whole(4), two("+", 4, 5))
	checkExprs(t, "1 - 2 + 3 - 4", whole(1), whole(2), two("-", 0, 1), whole(3), two("+", 2, 3), whole(4), two("-", 4, 5))
	checkExprs(t, "1 * 2 * 3", whole(1), whole(2), two("*", 0, 1), whole(3), two("*", 2, 3))
	checkExprs(t, "1 - (2 - 3)", whole(1), whole(2), whole(3), two("-", 1, 2), two("-", 0, 3))
	checkExprs(t, "1 * (2 * 3)", whole(1), whole(2), whole(3), two("*", 1, 2), two("*", 0, 3))
	checkExprs(t, "a * b - c * d * e", name("a"), name("b"), two("*", 0, 1), name("c"), name("d"), two("*", 3, 4), name("e"), two("*", 5, 6), two("-", 2, 7))
	checkExprs(t, "(1 + 2) * b", whole(1), whole(2), two("+", 0, 1), name("b"), two("*", 2, 3))
	for _, op := range []string{"<", "<=", "=", "<>", ">", ">="} {
		checkExprs(t, "1 + 2 "+op+" 3 * 4 - 5", whole(1), whole(2), two("+", 0, 1), whole(3), whole(4), two("*", 3, 4), whole(5), two("-", 5, 6), two(op, 2, 7))
		checkExprs(t, "(1 "+op+" 2) "+op+" 3", whole(1), whole(2), two(op, 0, 1), whole(3), two(op, 2, 3))
		checkExprs(t, "1 + (2 "+op+" 3)", whole(1), whole(2), whole(3), two(op, 1, 2), two("+", 0, 3))
	}
}

// P8.1: - ahead of a factor takes that one alone, and stands behind any sign.
func TestNeg(t *testing.T) {
	checkExprs(t, "--x", name("x"), neg(0), neg(1))
	checkExprs(t, "-1 + 2", whole(1), neg(0), whole(2), two("+", 1, 2))
	checkExprs(t, "-1 * 2", whole(1), neg(0), whole(2), two("*", 1, 2))
	checkExprs(t, "-1 < 2", whole(1), neg(0), whole(2), two("<", 1, 2))
	checkExprs(t, "1 - -2", whole(1), whole(2), neg(1), two("-", 0, 2))
	checkExprs(t, "1*-2--3", whole(1), whole(2), neg(1), two("*", 0, 2), whole(3), neg(4), two("-", 3, 5))
	checkExprs(t, "1 =- 2", whole(1), whole(2), neg(1), two("=", 0, 2))
	checkExprs(t, "-(1 + 2)", whole(1), whole(2), two("+", 0, 1), neg(2))
	checkExprs(t, "-min(1, -2)", whole(1), whole(2), neg(1), two("min", 0, 2), neg(3))
	checkExprs(t, "-0.05", amount(5), neg(0))
	checkExprs(t, "-0", whole(0), neg(0))
}

// P8.1: () leave nothing of themselves, however many there are.
func TestInner(t *testing.T) {
	checkExprs(t, "(x)", name("x"))
	checkExprs(t, "(((x)))", name("x"))
	checkExprs(t, "((1) + ((2)))", whole(1), whole(2), two("+", 0, 1))
	checkExprs(t, "(1 < 2)", whole(1), whole(2), two("<", 0, 1))
	checkExprs(t, "(if a then b else c) * 2", name("a"), name("b"), name("c"), choice(0, 1, 2), whole(2), two("*", 3, 4))
	checkExprs(t, "2 - (if a then b else c)", whole(2), name("a"), name("b"), name("c"), choice(1, 2, 3), two("-", 0, 4))
	checkExprs(t, "-(if a then b else c)", name("a"), name("b"), name("c"), choice(0, 1, 2), neg(3))
}

// P8.1: if, min and max, in one another; each Expr behind its parts, A's ahead of B's, B's ahead of C's.
func TestOneInAnother(t *testing.T) {
	checkExprs(t, "if if a then b else c then if d then e else f else if g then h else i",
		name("a"), name("b"), name("c"), choice(0, 1, 2), name("d"), name("e"), name("f"), choice(4, 5, 6), name("g"), name("h"), name("i"), choice(8, 9, 10), choice(3, 7, 11))
	checkExprs(t, "if a < 1 then b + 2 else c = 3",
		name("a"), whole(1), two("<", 0, 1), name("b"), whole(2), two("+", 3, 4), name("c"), whole(3), two("=", 6, 7), choice(2, 5, 8))
	checkExprs(t, "min(max(a, b), min(c, d))", name("a"), name("b"), two("max", 0, 1), name("c"), name("d"), two("min", 3, 4), two("min", 2, 5))
	checkExprs(t, "max(if a then b else c, d > 1)", name("a"), name("b"), name("c"), choice(0, 1, 2), name("d"), whole(1), two(">", 4, 5), two("max", 3, 6))
	checkExprs(t, "if min(a, b) > 1 then max(c, d) else (e)", name("a"), name("b"), two("min", 0, 1), whole(1), two(">", 2, 3), name("c"), name("d"), two("max", 5, 6), name("e"), choice(4, 7, 8))
	checkExprs(t, "min((1 + 2) * 3, -4) - max(5, 6)", whole(1), whole(2), two("+", 0, 1), whole(3), two("*", 2, 3), whole(4), neg(5), two("min", 4, 6), whole(5), whole(6), two("max", 8, 9), two("-", 7, 10))
}

// P8.1: 60 rules are read; at the Kind of one more is ErrLong, whatever comes behind it; what is no Kind is ErrForm there.
func TestHowManyRules(t *testing.T) {
	rule := "let a=1;"
	sixty := strings.Repeat(rule, api.MaxRules)
	for _, n := range []int{1, 2, 59, 60} {
		if p, place, e := tree.Parse(strings.Repeat(rule, n)); len(p.Rules) != n || len(p.Exprs) != n || p.Rules[n-1].Root != n-1 || place != 0 || e != api.OK {
			t.Errorf("%d rules: %v, %d, %d", n, p, place, e)
		}
	}
	for _, s := range []string{"earn", "pretax", "post", "let", "let a=1;", "let let", "let a", "earn = ;", "post a=1;", rule + rule} {
		checkFault(t, sixty+s, 480, api.ErrLong)
		checkFault(t, sixty+" # more\n"+s, 488, api.ErrLong)
	}
	for _, s := range []string{"a", "if", "lets", "=", ";", "1", "min", ";let a=1;"} {
		checkFault(t, sixty+s, 480, api.ErrForm)
	}
	checkFault(t, sixty+"let a=1.5;", 486, api.ErrForm)
	checkFault(t, strings.Repeat(rule, 59)+"let a=;"+rule, 478, api.ErrForm)
	checkFault(t, strings.Repeat(rule, 61)+";", 480, api.ErrLong)
	if _, place, e := tree.Parse(sixty + " # let a=1;\n"); place != 0 || e != api.OK {
		t.Errorf("60 rules and a comment: %d, %d", place, e)
	}
}

// nests are what lies around something that is one deeper for it: what stands ahead, up to where that depth begins,
// and from there on; and what stands behind.
var nests = []struct{ begin, ahead, behind string }{
	{"(", "", ")"},
	{"(", "2 + ", " * 3)"},
	{"-", "", ""},
	{"min(", "", ",1)"},
	{"min(", "1,", ")"},
	{"max(", "", ",1)"},
	{"max(", "1,", ")"},
	{"if ", "", " then 1 else 2"},
	{"if ", "1 then ", " else 2"},
	{"if ", "1 then 2 else ", ""},
}

// wrapped is x, with so many of a nest around it.
func wrapped(x, ahead, behind string, n int) string {
	return strings.Repeat(ahead, n) + x + strings.Repeat(behind, n)
}

// P8.1: a depth of 20 is read, by each of the means, and by two of them.
func TestDepthOfTwenty(t *testing.T) {
	for _, c := range nests {
		s := "let a = " + wrapped("1", c.begin+c.ahead, c.behind, 19) + ";"
		if p, place, e := check(t, s); len(p.Rules) != 1 || place != 0 || e != api.OK {
			t.Errorf("Parse(%q): %v, %d, %d", s, p, place, e)
		}
		for _, d := range nests {
			check(t, "let a = "+wrapped(wrapped("1", d.begin+d.ahead, d.behind, 10), c.begin+c.ahead, c.behind, 9)+";")
			check(t, "let a = "+wrapped("1", c.begin+c.ahead+d.begin+d.ahead, d.behind+c.behind, 10)+";")
		}
	}
}

// P8.1: where an expression, or a factor, of a depth of 21 would begin is ErrLong, whatever stands there, the end, too.
func TestDepthOfTwentyOne(t *testing.T) {
	for _, c := range nests {
		for _, last := range nests {
			if last.begin == "if " && (c.begin == "-" || c.ahead == "2 + ") {
				continue // A factor stands there, which an if is not.
			}
			s := "let a = " + strings.Repeat(c.begin+c.ahead, 19) + last.begin
			for _, there := range []string{"", "1", "x;", ";", ")", ",", "=", "<", "*", "-", "(", "if", "then", "let", "min(1, 2)", "1" + last.behind + strings.Repeat(c.behind, 19) + ";"} {
				checkFault(t, s+there, len(s), api.ErrLong)
				checkFault(t, s+" #\n"+there, len(s)+3, api.ErrLong)
			}
			checkFault(t, s+" # 1", len(s)+4, api.ErrLong)
		}
		at := 8 + 19*len(c.begin+c.ahead) + len(c.begin)
		checkFault(t, "let a = "+wrapped("1", c.begin+c.ahead, c.behind, 20)+";", at, api.ErrLong)
		checkFault(t, "let a = "+wrapped("1", c.begin+c.ahead, c.behind, 21)+";", at, api.ErrLong)
	}
}

// P8.1: what ends ahead of a depth of 21 is told first, and what stands side by side is no deeper for it.
func TestNotDeeper(t *testing.T) {
	deep := strings.Repeat("(", 19)
	checkFault(t, "let a = "+deep+"min 1", 8+19+4, api.ErrForm)
	checkFault(t, "let a = "+deep+"min", 8+19+3, api.ErrForm)
	checkFault(t, "let a = "+deep+"min(", 8+19+4, api.ErrLong)
	checkFault(t, "let a = "+deep+";", 8+19, api.ErrForm)
	checkFault(t, "let a = "+deep, 8+19, api.ErrForm)
	checkFault(t, "let a = "+deep+"1 + -1", 8+19+5, api.ErrLong)
	checkFault(t, "let a = "+deep+"1 < (", 8+19+5, api.ErrLong)
	checkFault(t, "let a = "+strings.Repeat("-", 19)+";", 8+19, api.ErrForm)
	checkFault(t, "let a = "+strings.Repeat("-", 19)+"if", 8+19, api.ErrForm)
	full := wrapped("1", "(", ")", 19)
	for _, s := range []string{full + " + " + full, full + " * " + full, full + " < " + full, full + "-" + full, "-1" + strings.Repeat(" - -1", 100), "(1)" + strings.Repeat(" * (1)", 100), "min(1, 2)" + strings.Repeat(" + max(1, 2)", 100), wrapped("1 + 2 * 3 < 4", "(", ")", 19)} {
		if _, place, e := check(t, "let a = "+s+"; let b = "+s+";"); place != 0 || e != api.OK {
			t.Errorf("Parse of %.60q: %d, %d", s, place, e)
		}
	}
}

// P8.1: a word of the language is no name, neither of a rule nor in an expression.
func TestWordsOfTheLanguage(t *testing.T) {
	for w := range strings.FieldsSeq(language) {
		checkFault(t, "let "+w+" = 1;", 4, api.ErrForm)
		checkFault(t, "let a = 1 + "+w+";", 12+readOf(w), api.ErrForm)
		checkFault(t, "let a = -"+w, 9+readOf(w), api.ErrForm)
		checkFault(t, "let a = 1 "+w+";", 10, api.ErrForm)
		if !among(w, kinds) {
			checkFault(t, w+" a = 1;", 0, api.ErrForm)
			checkFault(t, "let a = 1; "+w+" b = 1;", 11, api.ErrForm)
		}
	}
}

// readOf is how many bytes of the word may stand where a factor begins: of min and max only what is behind them is wrong.
func readOf(word string) int {
	if among(word, " min max ") {
		return len(word)
	}
	return 0
}

// P8.1: the first token that cannot go on, wherever in a rule it stands.
func TestWrongTokens(t *testing.T) {
	for s, at := range map[string]int{
		";": 0, "a": 0, "a = 1;": 0, "1": 0, "= 1;": 0, "if a then b else c;": 0, "min(1, 2);": 0,
		"let 1 = 1;": 4, "let 1.00 = 1;": 4, "let = 1;": 4, "let ;": 4, "let (a) = 1;": 4, "let -a = 1;": 4, "earn let = 1;": 5,
		"let a 1;": 6, "let a b = 1;": 6, "let a == 1;": 7, "let a <= 1;": 6, "let a < 1;": 6, "let a; = 1;": 5,
		"let a = ;": 8, "let a = );": 8, "let a = ();": 9, "let a = *1;": 8, "let a = +1;": 8, "let a = <1;": 8, "let a = ,;": 8, "let a = then;": 8, "let a = else;": 8, "let a = = 1;": 8,
		"let a = 1 2;": 10, "let a = 1 b;": 10, "let a = b 1.00;": 10, "let a = 1 (2);": 10, "let a = b (2);": 10, "let a = 1, 2;": 9, "let a = 1);": 9, "let a = (1) (2);": 12, "let a = (1)2;": 11, "let a = 1 - (2;": 14, "let a = (1, 2);": 10, "let a = (1;": 10,
		"let a = 1 +;": 11, "let a = 1 + * 2;": 12, "let a = 1 * + 2;": 12, "let a = 1 *;": 11, "let a = 1 + < 2;": 12, "let a = -;": 9, "let a = - + 1;": 10, "let a = 1 < ;": 12, "let a = 1 <> = 2;": 13, "let a = 1 < > 2;": 12, "let a = 1 - ) 2;": 12,
		"let a = 1 < 2 < 3;": 14, "let a = 1 = 2 <> 3;": 14, "let a = 1 >= 2 + 3 <= 4;": 19, "let a = (1 < 2 > 3);": 15, "let a = if 1 < 2 = 3 then 1 else 2;": 17, "let a = 1 < 2 * 3 = (4);": 18,
		"let a = 1 + if b then 2 else 3;": 12, "let a = 1 < if b then 2 else 3;": 12, "let a = -if b then 2 else 3;": 9, "let a = 2 * if b then 2 else 3;": 12,
		"let a = if then 1 else 2;": 11, "let a = if b 1 else 2;": 13, "let a = if b else 1 then 2;": 13, "let a = if b then else 2;": 18, "let a = if b then 1;": 19, "let a = if b then 1 2;": 20, "let a = if b then 1 then 2 else 3;": 20, "let a = if b then 1 else;": 24, "let a = if b then 1 else 2 else 3;": 27, "let a = if b; then 1 else 2;": 12, "let a = if (b then 1 else 2);": 14, "let a = if if b then 1 else 2;": 29,
		"let a = min;": 11, "let a = min 1;": 12, "let a = min + 1;": 12, "let a = min();": 12, "let a = min(1);": 13, "let a = min(1 2);": 14, "let a = max(1, );": 15, "let a = max(1, 2;": 16, "let a = max(1, 2, 3);": 16, "let a = max(, 1);": 12, "let a = max(1; 2);": 13, "let a = min max(1, 2);": 12, "let a = min((1, 2));": 14,
		"let a = 1;;": 10, "let a = 1; b = 2;": 11, "let a = 1 let b = 2;": 10, "let a = 1;\nlet b = 2\nlet c = 3;": 21, "let a = 1; let b = 2; ;": 22, "let a = 1;)": 10, "let a = 1;#\n=": 12,
	} {
		checkFault(t, s, at, api.ErrForm)
	}
}

// P8.1: a text that ends in the midst of a rule has its fault at the end of all its bytes, blanks and comments, too.
func TestEnd(t *testing.T) {
	for _, s := range []string{"let", "let a", "let a =", "let a = 1", "let a = b", "let a = 1 +", "let a = 1 *", "let a = 1 <", "let a = -", "let a = (", "let a = (1", "let a = (1)", "let a = min", "let a = min(", "let a = min(1", "let a = min(1,", "let a = min(1,2", "let a = max(1,2)", "let a = if", "let a = if b", "let a = if b then", "let a = if b then 1", "let a = if b then 1 else", "let a = if b then 1 else 2", "earn x = 1.00; post"} {
		for _, more := range []string{"", " ", "   ", "\n", " \n\n ", "#", " # the end;", "#\n", " # let a = 1;\n # b\n"} {
			checkFault(t, s+more, len(s)+len(more), api.ErrForm)
		}
	}
}

// P8.1: what is no token is told ahead of all else, with its place.
func TestNoTokens(t *testing.T) {
	for s, at := range map[string]int{"?": 0, "let a = ?;": 8, "let a = 1.5;": 8, "let a = 01;": 8, "let abcdefghijklm = 1;": 4, "let a = 1; ?": 11, "; ?": 2, "let let a ?": 10, "a = 1; # ?\n%": 11, "let a = 100.01%;": 8, "let a = 1000000000;": 8, "let a = 92233720368547758.08;": 8, "let A = 1;": 4, "let a = \t1;": 8} {
		checkFault(t, s, at, api.ErrForm)
	}
	checkFault(t, "let a = "+strings.Repeat("(", 30)+"?", 38, api.ErrForm)
	checkFault(t, strings.Repeat("let a=1;", 61)+"?", 488, api.ErrForm)
}

// pieces are tokens of all sorts, as they stand in rules.
var pieces = []string{"let", "if", "then", "else", "min", "max", "x", "1", "1.00", "1.00%", "=", "<", ">=", "+", "-", "*", "(", ")", ",", ";"}

// P8.1: rules of few tokens, all of them, each as long as it can go on, and one token more.
func TestFewTokens(t *testing.T) {
	var more func(s string, left int)
	more = func(s string, left int) {
		if _, place, e := check(t, s); e != api.OK && place < len(s) || left == 0 {
			return
		}
		for _, p := range pieces {
			more(s+" "+p, left-1)
		}
	}
	more("", 4)
	for _, s := range []string{"let a =", "post a = if", "earn a = min(", "earn a = max(1,", "let a = if b then 1", "let a = (1", "let a = b", "let a = 1 < 2", "let a = -"} {
		more(s, 4)
	}
}

// right are texts without a fault, with much in them.
func right() []string {
	return []string{
		"earn a = if hours > 10 then 2.00 * hours else -(b - 1) + 3;\npretax c = min(a, 50.00%);",
		"let a = 1 + 2 * b; let b = (1 + 2) * b; post c = -(1 - -2) * 3 - 4;",
		"earn x = if if a < 1 then b else c = 2 then max(1.00, min(2.00, y)) else if d then (e) else f <> g;",
		"pretax p=base*12.50%;post q=min(max(0,1),(2)*3)+-4;# end",
		"let a = ((((1)))) >= (2 <= 3); let a = 1 * 2 * 3 + 4 * 5 - 6 - (7 - 8) > 9;",
		"earn a = max(if a then b else c, (if d then e else f) + 1); earn b = ---x;",
	}
}

func texts(l []lex.Token) []string {
	var all []string
	for _, k := range l {
		all = append(all, k.Text)
	}
	return all
}

// P8.1: right texts, with each token left out, said twice, in the next one's place, or another in its own; and cut off.
func TestTurnedTexts(t *testing.T) {
	for _, s := range right() {
		if _, place, e := check(t, s); place != 0 || e != api.OK {
			t.Errorf("Parse(%q): %d, %d", s, place, e)
		}
		for end := range len(s) {
			check(t, s[:end])
			check(t, s[end:])
		}
		l, _, _ := lex.All(s)
		words := texts(l)
		for i := range words {
			check(t, strings.Join(slices.Delete(slices.Clone(words), i, i+1), " "))
			for j := range i {
				turned := slices.Clone(words)
				turned[i], turned[j] = turned[j], turned[i]
				check(t, strings.Join(turned, " "))
			}
			for _, p := range append(pieces, words[i]) {
				check(t, strings.Join(slices.Insert(slices.Clone(words), i, p), " "))
				check(t, strings.Join(slices.Replace(slices.Clone(words), i, i+1, p), " "))
			}
		}
	}
}

// strewn makes numbers that are the same each time, and expressions by them, of that many factors, or a few more.
type strewn struct {
	last    uint64
	factors int
}

func (g *strewn) below(n int) int {
	g.last = g.last*6364136223846793005 + 1442695040888963407
	return int(g.last >> 33 % uint64(n))
}

// expression is a text in which that many lie around one another, at most.
func (g *strewn) expression(around int) string {
	if around > 0 && g.factors > 0 && g.below(6) == 0 {
		return "if " + g.expression(around-1) + " then " + g.expression(around-1) + " else " + g.expression(around-1)
	}
	s := g.sum(around)
	if g.below(4) == 0 {
		s += strings.Fields(compares)[g.below(6)] + g.sum(around)
	}
	return s
}

func (g *strewn) sum(around int) string {
	s := g.factor(around)
	for g.below(5) < 2 {
		s += []string{"+", "-", "*"}[g.below(3)] + g.factor(around)
	}
	return s
}

func (g *strewn) factor(around int) string {
	g.factors--
	which := g.below(9)
	if around == 0 || g.factors < 0 {
		which = 0
	}
	switch which {
	case 1, 2:
		return "-" + g.factor(around-1)
	case 3, 4, 5:
		return "(" + g.expression(around-1) + ")"
	case 6:
		return "min(" + g.expression(around-1) + "," + g.expression(around-1) + ")"
	case 7:
		return "max(" + g.expression(around-1) + "," + g.expression(around-1) + ")"
	}
	return []string{"a", "b2", "0", "17", "3.05", "7.50%"}[g.below(6)]
}

// rule is one of that many factors, or a few more.
func (g *strewn) rule(factors int, around int) string {
	g.factors = factors
	return strings.Fields(kinds)[g.below(4)] + " r = " + g.expression(around) + ";\n"
}

// P8.1: strewn rule sets, some of them deeper than they may be; whole, and with a token turned.
func TestStrewnTexts(t *testing.T) {
	g := strewn{last: 8}
	right, long := 0, 0
	for range 5000 {
		s := ""
		for range g.below(4) {
			s += g.rule(g.below(80), g.below(30))
		}
		switch _, _, e := check(t, s); e {
		case api.OK:
			right++
		case api.ErrLong:
			long++
		}
		l, _, _ := lex.All(s)
		for words := texts(l); len(words) > 0; words = words[:g.below(len(words))] {
			words[g.below(len(words))] = pieces[g.below(len(pieces))]
			check(t, strings.Join(words, " "))
		}
	}
	if right < 1000 || long < 100 {
		t.Errorf("%d of them are right, %d too deep", right, long)
	}
}

// P1: long texts end, and have all their parts.
func TestLongTexts(t *testing.T) {
	many := 1 << 16
	p, place, e := tree.Parse("let a = 1" + strings.Repeat(" + -1 * (1)", many) + ";")
	if len(p.Exprs) != 5*many+1 || p.Rules[0].Root != 5*many || place != 0 || e != api.OK {
		t.Errorf("a long sum: %d, %d, %d", len(p.Exprs), place, e)
	}
	for _, s := range []string{"(", "-", "min(", "if "} {
		checkFault(t, "let a = "+strings.Repeat(s, many), 8+20*len(s), api.ErrLong)
	}
	checkFault(t, strings.Repeat("let a = 1;", many), 600, api.ErrLong)
	checkFault(t, "let a = 1"+strings.Repeat(" ", many), 9+many, api.ErrForm)
}

// uses: how often each Expr of p is a part of another, or a Root.
func uses(t *testing.T, s string, p tree.Program) (parts []int, roots []int) {
	parts, roots = make([]int, len(p.Exprs)), make([]int, len(p.Exprs))
	for i, x := range p.Exprs {
		of := []int{x.A, x.B, x.C}
		switch x.Op {
		case "whole", "amount", "rate", "name":
			of = nil
		case "neg":
			of = of[:1]
		case "if":
		default:
			of = of[:2]
		}
		for _, at := range of {
			if at < 0 || at >= i {
				t.Fatalf("Parse(%q): Expr %d has a part %d", s, i, at)
			}
			parts[at]++
		}
	}
	for _, r := range p.Rules {
		roots[r.Root]++
	}
	return parts, roots
}

// P8.2: each Expr but the Roots is a part of just one, and those are parts of none.
func TestPartOfJustOne(t *testing.T) {
	g := strewn{last: 82}
	l := right()
	for range 500 {
		l = append(l, g.rule(40, 6)+g.rule(10, 3)+g.rule(20, 19))
	}
	for _, s := range l {
		p, _, e := tree.Parse(s)
		if e != api.OK {
			t.Fatalf("Parse(%q): %d", s, e)
		}
		parts, roots := uses(t, s, p)
		for i := range parts {
			if parts[i]+roots[i] != 1 {
				t.Fatalf("Parse(%q): Expr %d is a part of %d, and the root of %d", s, i, parts[i], roots[i])
			}
		}
	}
}

// P8.2: blanks, bytes 10 and comments between tokens turn nothing of a program, and of an error its place alone.
func TestBlanks(t *testing.T) {
	l := right()
	for _, s := range right() {
		l = append(l, strings.TrimSuffix(s, ";"), strings.Replace(s, "=", " ", 1), strings.Replace(s, "(", " ", 1), strings.Repeat(s, 40))
	}
	l = append(l, "let a = "+strings.Repeat("(", 25), "", "let a = min 1;")
	for _, s := range l {
		want, place, e := tree.Parse(s)
		tokens, _, _ := lex.All(s)
		faulty := slices.IndexFunc(tokens, func(k lex.Token) bool { return k.At == place })
		for _, between := range []string{" ", "  ", "\n", "#\n", " # let a = 1; ?\n "} {
			apart := between + strings.Join(texts(tokens), between) + between
			got, at, f := tree.Parse(apart)
			wantPlace := 0
			if e != api.OK {
				wantPlace = placeOf(apart, faulty)
			}
			if !same(got, want) || f != e || at != wantPlace {
				t.Fatalf("Parse(%q) = %v, %d, %d; want %v, %d, %d", apart, got, at, f, want, wantPlace, e)
			}
		}
	}
}

// placeOf is where the token of that number stands in s; the end, if that is -1.
func placeOf(s string, number int) int {
	if number < 0 {
		return len(s)
	}
	l, _, _ := lex.All(s)
	return l[number].At
}

// R1, R4: an answer is new memory, and the same text has the same answer again.
func TestNewMemory(t *testing.T) {
	s := "earn abc = 123 * def + min(1.50, -ghi); let j = if k < 1 then abc else 2;"
	begin := uintptr(unsafe.Pointer(unsafe.StringData(s)))
	first, _, _ := tree.Parse(s)
	held := func(text string) {
		if p := uintptr(unsafe.Pointer(unsafe.StringData(text))); text != "" && p >= begin && p < begin+uintptr(len(s)) {
			t.Errorf("%q is a piece of what was handed in", text)
		}
	}
	for _, x := range first.Exprs {
		held(x.Op)
		held(x.Name)
	}
	for _, r := range first.Rules {
		held(r.Kind)
		held(r.Name)
	}
	kept := tree.Program{Rules: slices.Clone(first.Rules), Exprs: slices.Clone(first.Exprs)}
	clear(first.Rules)
	clear(first.Exprs)
	if again, place, e := tree.Parse(s); !same(again, kept) || place != 0 || e != api.OK {
		t.Errorf("Parse(%q) = %v, %d, %d; was %v", s, again, place, e, kept)
	}
}
