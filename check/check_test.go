package check_test

import (
	"slices"
	"strconv"
	"strings"
	"testing"

	"paymaster/api"
	"paymaster/check"
	"paymaster/tree"
)

func whole(n int) tree.Expr                 { return tree.Expr{Op: "whole", Value: n} }
func amount(n int) tree.Expr                { return tree.Expr{Op: "amount", Value: n} }
func percent(n int) tree.Expr               { return tree.Expr{Op: "rate", Value: n} }
func name(s string) tree.Expr               { return tree.Expr{Op: "name", Name: s} }
func neg(a int) tree.Expr                   { return tree.Expr{Op: "neg", A: a} }
func two(op string, a int, b int) tree.Expr { return tree.Expr{Op: op, A: a, B: b} }
func choice(a int, b int, c int) tree.Expr  { return tree.Expr{Op: "if", A: a, B: b, C: c} }

func program(exprs ...tree.Expr) tree.Program {
	return tree.Program{Exprs: exprs}
}

// four are a binding of each kind: m Money, r Rate, n Number, f Flag.
func four() []check.Bind {
	return []check.Bind{{Name: "m", Kind: api.Money}, {Name: "r", Kind: api.Rate}, {Name: "n", Kind: api.Number}, {Name: "f", Kind: api.Flag}}
}

// ofKind are names that four binds to these kinds; 0 is a name without a binding.
func ofKind(kinds ...int) []tree.Expr {
	var l []tree.Expr
	for _, k := range kinds {
		l = append(l, name([]string{"nobody", "m", "r", "n", "f"}[k]))
	}
	return l
}

// read is the program of a rule of that expression, and its root.
func read(t *testing.T, s string) (tree.Program, int) {
	t.Helper()
	p, at, e := tree.Parse("let x = " + s + ";")
	if e != api.OK {
		t.Fatalf("Parse of %q: %d, %d", s, at, e)
	}
	return p, p.Rules[0].Root
}

// checkRead: what is read of s, with the bindings of four, answers that.
func checkRead(t *testing.T, s string, kind int, place int, e api.Errno) {
	t.Helper()
	p, root := read(t, s)
	is(t, p, root, four(), kind, place, e)
}

// P10.1: expressions that have a kind, by texts written by hand.
func TestKinds(t *testing.T) {
	for s, kind := range map[string]int{
		"7": api.Number, "0": api.Number, "1.50": api.Money, "2.00%": api.Rate, "m": api.Money, "r": api.Rate, "n": api.Number, "f": api.Flag,
		"-7": api.Number, "-1.50": api.Money, "--m": api.Money, "---n": api.Number,
		"1.50 + m": api.Money, "1 + n": api.Number, "m - 1.50": api.Money, "n - 1": api.Number,
		"1 * 2": api.Number, "1.50 * 2": api.Money, "2 * 1.50": api.Money, "m * r": api.Money, "r * m": api.Money, "2.00% * 1.50": api.Money, "n * n * m * r * n": api.Money,
		"1 < n": api.Flag, "1.50 <= m": api.Flag, "r > 2.00%": api.Flag, "n >= 3": api.Flag, "m = 1.50": api.Flag, "r <> r": api.Flag, "n = n": api.Flag, "f = f": api.Flag, "f <> (1 < 2)": api.Flag,
		"min(1, n)": api.Number, "max(m, 1.50)": api.Money, "min(r, 2.00%)": api.Rate, "max(r, r) * m": api.Money,
		"if f then 1 else n": api.Number, "if 1 < 2 then m else 1.50": api.Money, "if f = f then r else 2.00%": api.Rate, "if f then f else 1 < 2": api.Flag, "if if f then f else f then m else m": api.Money,
		"if n > 10 then 2.00 * n else -(m * r) + 3.00": api.Money,
	} {
		checkRead(t, s, kind, 0, api.OK)
	}
}

// P10.1: expressions that have none, by texts written by hand, with the place of what has none.
func TestNoKinds(t *testing.T) {
	for s, place := range map[string]int{
		"1.50 + 2": 2, "2 + 1.50": 2, "r + r": 2, "f + f": 2, "m - n": 2, "n - m": 2, "r - r": 2, "f - f": 2, "m + r": 2,
		"m * m": 2, "r * r": 2, "n * r": 2, "r * n": 2, "f * m": 2, "m * f": 2, "f * n": 2, "f * f": 2,
		"-r": 1, "-f": 1, "-2.00%": 1, "--r": 1,
		"m < n": 2, "n >= m": 2, "m < r": 2, "f < f": 2, "f <= f": 2, "f > f": 2, "f >= f": 2, "m = n": 2, "r <> m": 2, "f = n": 2, "1 = f": 2,
		"min(m, n)": 2, "max(n, r)": 2, "min(f, f)": 2, "max(f, f)": 2, "min(f, n)": 2,
		"if f then m else n": 3, "if f then f else n": 3, "if m then 1 else 2": 3, "if n then m else m": 3, "if r then f else f": 3, "if 1 then 2 else 3.00": 3,
		"m + (n + m)": 3, "(n + m) + m": 2, "(f < f) + (r + r)": 2, "if -f then r + r else m": 1,
	} {
		checkRead(t, s, 0, place, api.ErrType)
	}
}

// P10.1: each Op with parts of each one, each two and each three kinds; Kind answers what the list knows, be the fields
// that an Op has not what they are.
func TestEachOp(t *testing.T) {
	for op := range strings.FieldsSeq(ops) {
		x := tree.Expr{Op: op, A: 0, B: 1, C: 2}
		count := len(places(x))
		for kinds := range kindsOf(3) {
			exprs := append(ofKind(kinds...), x)
			want, place, e := knownKind(op, kinds[:count]), 0, api.OK
			switch {
			case op == "name":
				place, e = 3, api.ErrNone
			case want == 0:
				place, e = 3, api.ErrType
			}
			is(t, program(exprs...), 3, four(), want, place, e)
			hold(t, program(exprs...), 3, four())
		}
	}
}

// kindsOf goes through all lists of that many of the four kinds.
func kindsOf(count int) func(yield func([]int) bool) {
	return func(yield func([]int) bool) {
		l := slices.Repeat([]int{1}, count)
		for {
			if !yield(slices.Clone(l)) {
				return
			}
			i := slices.IndexFunc(l, func(k int) bool { return k < 4 })
			if i < 0 {
				return
			}
			l[i]++
			for j := range i {
				l[j] = 1
			}
		}
	}
}

// P10.1: what an Op has not turns nothing: not the Value, the Name, nor a part that it has none of, there or not.
func TestOtherFields(t *testing.T) {
	ends := []int{0, 1, 2, 3, 4, -1, api.Most, -api.Most - 1}
	for op := range strings.FieldsSeq(ops) {
		for kinds := range kindsOf(3) {
			x := tree.Expr{Op: op, Name: "m", A: 0, B: 1, C: 2}
			parts := []*int{&x.A, &x.B, &x.C}
			count := len(places(x))
			want, place, e := check.Kind(program(append(ofKind(kinds...), x)...), 3, four())
			for _, n := range ends {
				for _, part := range append(parts[count:], &x.Value) {
					*part = n
					is(t, program(append(ofKind(kinds...), x)...), 3, four(), want, place, e)
				}
				if op != "name" {
					x.Name = []string{"", "nobody", "f", op}[n&3]
					is(t, program(append(ofKind(kinds...), x)...), 3, four(), want, place, e)
				}
			}
		}
	}
	for _, n := range ends {
		is(t, program(whole(n)), 0, nil, api.Number, 0, api.OK)
		is(t, program(amount(n)), 0, nil, api.Money, 0, api.OK)
		is(t, program(percent(n)), 0, nil, api.Rate, 0, api.OK)
	}
}

// P10.1: names with one binding, with none, and with several; the first one holds, whatever stands behind, or ahead of other Names.
func TestNames(t *testing.T) {
	for _, s := range []string{"a", "base", "abcdefghijkl", "if", "whole", "name", "", " ", "A", "m n", "ä", "\x00", strings.Repeat("long", 100)} {
		p := program(name(s))
		for _, l := range [][]check.Bind{nil, {}, four(), {{Name: s + "x", Kind: 1}}, {{Name: "x" + s, Kind: 1}}, {{Name: s + " ", Kind: 2}, {Name: " " + s, Kind: 3}}} {
			is(t, p, 0, l, 0, 0, api.ErrNone)
		}
		for kinds := range kindsOf(3) {
			l := []check.Bind{{Name: s, Kind: kinds[0]}}
			is(t, p, 0, l, kinds[0], 0, api.OK)
			is(t, p, 0, slices.Concat(four(), l, four()), kinds[0], 0, api.OK)
			is(t, p, 0, append(l, check.Bind{Name: s, Kind: kinds[1]}), kinds[0], 0, api.OK)
			is(t, p, 0, append(l, check.Bind{Name: "x", Kind: kinds[2]}, check.Bind{Name: s, Kind: kinds[1]}, check.Bind{Name: s, Kind: kinds[2]}), kinds[0], 0, api.OK)
		}
	}
	for _, s := range []string{"M", "mm", "m ", "", "nobody"} {
		is(t, program(name(s)), 0, four(), 0, 0, api.ErrNone)
	}
	is(t, program(name("m"), name("r"), two("*", 0, 1), name("m"), two("+", 2, 3)), 4, four(), api.Money, 0, api.OK)
}

// P10.1: a binding of a Kind that is none of the four is one, but of no kind, also where one of a kind stands behind it.
func TestOddBindings(t *testing.T) {
	p := program(whole(1), name("a"), two("+", 0, 1))
	for _, k := range []int{0, -1, 5, 6, 9, -4, 256 + 1, 1<<32 + 3, api.Most, -api.Most - 1} {
		odd := check.Bind{Name: "a", Kind: k}
		for _, l := range [][]check.Bind{{odd}, {odd, {Name: "a", Kind: 3}}, {{Name: "b", Kind: 3}, odd, odd}, {odd, {Name: "a", Kind: 1}, {Name: "a", Kind: 2}, {Name: "a", Kind: 4}}} {
			is(t, p, 1, l, 0, 1, api.ErrType)
			is(t, p, 2, l, 0, 1, api.ErrType)
		}
		is(t, p, 2, []check.Bind{{Name: "a", Kind: 3}, odd}, api.Number, 0, api.OK)
		is(t, p, 2, []check.Bind{{Name: "b", Kind: k}, {Name: "a", Kind: 3}}, api.Number, 0, api.OK)
		is(t, p, 2, []check.Bind{{Name: "b", Kind: k}}, 0, 1, api.ErrNone)
		for op := range strings.FieldsSeq(pairs + "if neg") {
			is(t, program(name("a"), name("a"), name("a"), tree.Expr{Op: op, A: 0, B: 1, C: 2}), 3, []check.Bind{odd}, 0, 0, api.ErrType)
		}
	}
}

// P10.1: of several that have no kind, the first one by its place is told, whatever the others are, and in whatever part it stands.
func TestFirst(t *testing.T) {
	checkRead(t, "nobody", 0, 0, api.ErrNone)
	checkRead(t, "m + nobody", 0, 1, api.ErrNone)
	checkRead(t, "nobody + (m + n)", 0, 0, api.ErrNone)
	checkRead(t, "(m + n) + nobody", 0, 2, api.ErrType)
	checkRead(t, "(r + nobody) + (m + n)", 0, 1, api.ErrNone)
	checkRead(t, "if 1 then nobody else noone", 0, 1, api.ErrNone)
	checkRead(t, "if f then 1 else nobody", 0, 2, api.ErrNone)
	checkRead(t, "if -f then nobody else noone", 0, 1, api.ErrType)
	all := []tree.Expr{neg(0), name("nobody"), two("/", 0, 0), name("odd"), two("+", 0, 0)}
	odd := append(four(), check.Bind{Name: "odd", Kind: 7})
	for i := range all {
		for j := range all {
			for _, sides := range [][2]int{{1, 3}, {3, 1}, {1, 1}, {3, 3}} {
				exprs := []tree.Expr{name("r"), all[i], name("m"), all[j], two("+", sides[0], sides[1])}
				first := min(sides[0], sides[1])
				e := api.ErrType
				if exprs[first].Name == "nobody" {
					e = api.ErrNone
				}
				is(t, program(exprs...), 4, odd, 0, first, e)
			}
			// A part ahead by its place may be farther down: the first one is the part of a part of C.
			exprs := []tree.Expr{name("r"), all[i], neg(1), neg(2), all[j], choice(4, 4, 3)}
			e := api.ErrType
			if exprs[1].Name == "nobody" {
				e = api.ErrNone
			}
			is(t, program(exprs...), 5, odd, 0, 1, e)
		}
	}
}

// P10.1: Exprs that the root is not made of turn nothing, ahead of it, between its parts or behind, whatever they are.
func TestOthers(t *testing.T) {
	others := []tree.Expr{name("nobody"), name("odd"), neg(-1), neg(1), neg(99), two("+", 0, -5), two("*", api.Most, 0), choice(0, 0, -api.Most-1), two("/", 0, 0), {}, {Op: "if"}, two("what", 7, -7), whole(-1)}
	odd := append(four(), check.Bind{Name: "odd", Kind: -2})
	for _, x := range others {
		right := program(x, name("m"), x, name("r"), x, two("*", 1, 3), x, x)
		is(t, right, 5, odd, api.Money, 0, api.OK)
		is(t, right, 1, odd, api.Money, 0, api.OK)
		wrong := program(x, name("r"), x, name("r"), x, two("*", 1, 3), x, neg(5), x)
		is(t, wrong, 5, odd, 0, 5, api.ErrType)
		is(t, wrong, 7, odd, 0, 5, api.ErrType)
		is(t, wrong, 3, odd, api.Rate, 0, api.OK)
		unbound := program(x, name("m"), x, name("nobody"), x, two("*", 3, 1), x)
		is(t, unbound, 5, odd, 0, 3, api.ErrNone)
		is(t, unbound, 1, odd, api.Money, 0, api.OK)
	}
}

// P10.1: rules are not asked: not what is a Root, nor how many there are.
func TestRulesNotAsked(t *testing.T) {
	exprs := []tree.Expr{name("m"), whole(2), two("*", 0, 1)}
	for _, rules := range [][]tree.Rule{nil, {}, {{Root: -1}}, {{Kind: "let", Name: "x", Root: 1}}, make([]tree.Rule, 100)} {
		is(t, tree.Program{Rules: rules, Exprs: exprs}, 2, four(), api.Money, 0, api.OK)
		is(t, tree.Program{Rules: rules, Exprs: exprs}, 1, four(), api.Number, 0, api.OK)
		is(t, tree.Program{Rules: rules}, 0, four(), 0, 0, api.ErrArg)
	}
}

// P10.1: a root that is not there.
func TestWrongRoots(t *testing.T) {
	for _, exprs := range [][]tree.Expr{nil, {}, {whole(1)}, {whole(1), neg(0)}, {name("nobody"), neg(5), {Op: "/"}}} {
		for _, root := range []int{-1, -2, len(exprs), len(exprs) + 1, api.Most, -api.Most - 1, -1 << 32, 1 << 32} {
			is(t, program(exprs...), root, four(), 0, 0, api.ErrArg)
		}
	}
	full := []tree.Expr{whole(1), whole(2)}
	is(t, program(full[:1]...), 1, nil, 0, 0, api.ErrArg)
}

// P10.1: a part that is not there, or not ahead of what it is a part of, at each place of each Op, an Op that is none, too;
// also deep down, and where something ahead of it has no kind.
func TestWrongParts(t *testing.T) {
	for _, op := range append(strings.Fields(pairs), "neg", "if", "/", "", "Whole", "whole ", "word") {
		for place := range places(tree.Expr{Op: op}) {
			for _, at := range []int{-1, -2, 4, 5, 6, 7, 8, api.Most, -api.Most - 1, -1 << 32, 1 << 32} {
				x := tree.Expr{Op: op}
				*[]*int{&x.A, &x.B, &x.C}[place] = at
				exprs := []tree.Expr{whole(1), name("nobody"), two("/", 0, 0), neg(1), x, two("+", 0, 4), two("+", 3, 5), whole(1)}
				for _, root := range []int{4, 5, 6} {
					is(t, program(exprs...), root, four(), 0, 0, api.ErrArg)
				}
				is(t, program(exprs...), 0, four(), api.Number, 0, api.OK)
				is(t, program(exprs...), 7, four(), api.Number, 0, api.OK)
			}
		}
	}
	is(t, program(neg(0)), 0, nil, 0, 0, api.ErrArg)
	is(t, program(neg(1), neg(0)), 1, nil, 0, 0, api.ErrArg)
	is(t, program(neg(1), whole(1)), 0, nil, 0, 0, api.ErrArg)
	is(t, program(tree.Expr{}), 0, nil, 0, 0, api.ErrArg)
	is(t, program(name("nobody"), neg(1), two("+", 0, 1)), 2, nil, 0, 0, api.ErrArg)
}

// P10.1: an Op that is none of layer 8's has no kind, but parts, A and B, which are asked ahead of it.
func TestWrongOps(t *testing.T) {
	for _, op := range []string{"", " ", "/", "==", "!=", "and", "or", "not", "Whole", "whole ", " whole", "NEG", "neg\n", "number", "money", "flag", "percent", "word", "let", "earn", "then", "else", "(", ",", "min(", "m", "1", "+ 1 1", "*3", "\x00", strings.Repeat("-", 1000)} {
		for kinds := range kindsOf(2) {
			is(t, program(append(ofKind(kinds...), two(op, 0, 1))...), 2, four(), 0, 2, api.ErrType)
			is(t, program(append(ofKind(kinds...), two(op, 1, 1), neg(2))...), 3, four(), 0, 2, api.ErrType)
		}
		is(t, program(name("m"), name("nobody"), two(op, 0, 1)), 2, four(), 0, 1, api.ErrNone)
		is(t, program(name("nobody"), name("m"), two(op, 0, 1)), 2, four(), 0, 0, api.ErrNone)
		is(t, program(name("m"), name("nobody"), two(op, 0, 0)), 2, four(), 0, 2, api.ErrType)
		is(t, program(name("f"), neg(0), two(op, 0, 1)), 2, four(), 0, 1, api.ErrType)
		is(t, program(name("m"), tree.Expr{Op: op, Name: "m", C: -1, Value: 5}), 1, four(), 0, 1, api.ErrType)
		is(t, program(name("m"), two(op, 0, 1)), 1, four(), 0, 0, api.ErrArg)
		is(t, program(name("m"), two(op, -1, 0)), 1, four(), 0, 0, api.ErrArg)
		is(t, program(name("m"), two(op, 2, 0), name("m")), 1, four(), 0, 0, api.ErrArg)
	}
}

// strewn makes numbers that are the same each time.
type strewn uint64

func (g *strewn) below(n int) int {
	*g = *g*6364136223846793005 + 1442695040888963407
	return int(uint64(*g) >> 33 % uint64(n))
}

// bindings are some of a few names, of the four kinds, and seldom of others.
func (g *strewn) bindings() []check.Bind {
	var l []check.Bind
	for range g.below(8) {
		k := 1 + g.below(4)
		if g.below(12) == 0 {
			k = g.below(12) - 3
		}
		l = append(l, check.Bind{Name: "mrnfx"[g.below(5):][:1], Kind: k})
	}
	return append(l, four()[:g.below(5)]...)
}

// exprs are that many, whose parts are mostly those just ahead.
func (g *strewn) exprs(count int, wrong int) []tree.Expr {
	words := strings.Fields(ops + leaves + leaves + leaves)
	var l []tree.Expr
	for i := range count {
		part := func() int {
			if wrong > 0 && g.below(wrong) == 0 {
				return g.below(count+4) - 2
			}
			return max(0, i-1-g.below(6))
		}
		x := tree.Expr{Op: words[g.below(len(words))], Name: "mrnfx"[g.below(5):][:1], Value: g.below(5), A: part(), B: part(), C: part()}
		if i == 0 {
			x.Op = strings.Fields(leaves)[g.below(4)]
		}
		if wrong > 0 && g.below(wrong) == 0 {
			x.Op = []string{"", "/", "Name", "min "}[g.below(4)]
		}
		l = append(l, x)
	}
	return l
}

// P10.1: programs of all sorts, right and wrong, each with each root, and some that are none.
func TestStrewn(t *testing.T) {
	g := strewn(101)
	var came [api.ErrShut + 1]int
	for i := range 6000 {
		p := program(g.exprs(1+g.below(14), []int{0, 8, 40}[i%3])...)
		l := g.bindings()
		for root := -2; root < len(p.Exprs)+2; root++ {
			came[hold(t, p, root, l)]++
		}
	}
	for _, e := range []api.Errno{api.OK, api.ErrArg, api.ErrNone, api.ErrType} {
		if came[e] < 3000 {
			t.Errorf("%d times %d", came[e], e)
		}
	}
}

// P10.2: more bindings behind turn nothing that is told without an error; where there is an error, one of a name that had none may.
func TestMoreBindings(t *testing.T) {
	g := strewn(102)
	told, turned := 0, 0
	for range 4000 {
		p := program(g.exprs(1+g.below(12), 0)...)
		l := g.bindings()
		for root := range p.Exprs {
			kind, place, e := check.Kind(p, root, l)
			more := append(slices.Clone(l), g.bindings()...)
			if e == api.OK {
				is(t, p, root, more, kind, place, e)
				told++
				continue
			}
			if hold(t, p, root, more) == api.OK {
				turned++
			}
		}
	}
	if told < 3000 || turned < 100 {
		t.Errorf("%d told without an error, %d turned from one", told, turned)
	}
}

// P1: programs that are deep, or come to one part in very many ways, and many names with many bindings, are told, and soon.
func TestLong(t *testing.T) {
	many := 1 << 18
	chain, double, wide := []tree.Expr{name("m")}, []tree.Expr{name("m")}, []tree.Expr{name("x0")}
	var l []check.Bind
	for i := range many {
		chain = append(chain, neg(i))
		double = append(double, two([]string{"+", "-", "min", "max"}[i&3], i, i))
		wide = append(wide, name("x"+strconv.Itoa(many-i)), two("+", 2*i, 2*i+1))
		l = append(l, check.Bind{Name: "x" + strconv.Itoa(i), Kind: api.Number}, check.Bind{Name: "x" + strconv.Itoa(i), Kind: api.Flag})
	}
	told := func(exprs []tree.Expr, l []check.Bind, kind int, place int, e api.Errno) {
		t.Helper()
		if k, at, got := check.Kind(program(exprs...), len(exprs)-1, l); k != kind || at != place || got != e {
			t.Errorf("%d, %d, %d; want %d, %d, %d", k, at, got, kind, place, e)
		}
	}
	told(chain, four(), api.Money, 0, api.OK)
	told(double, four(), api.Money, 0, api.OK)
	told(wide, l, 0, 1, api.ErrNone)
	told(wide, append(l, check.Bind{Name: "x" + strconv.Itoa(many), Kind: api.Number}), api.Number, 0, api.OK)
	chain[0], double[0] = name("r"), name("nobody")
	told(chain, four(), 0, 1, api.ErrType)
	told(double, four(), 0, 0, api.ErrNone)
	chain[0], double[0] = neg(0), two("+", 0, 0)
	told(chain, four(), 0, 0, api.ErrArg)
	told(double, four(), 0, 0, api.ErrArg)
}

// R1, R4: what is handed in stays as it was, up to what lies behind the lists, and is not kept.
func TestNothingKept(t *testing.T) {
	exprs := []tree.Expr{name("a"), whole(2), two("*", 0, 1), neg(7), name("a")}
	rules := []tree.Rule{{Kind: "let", Name: "x", Root: 2}, {Kind: "k"}}
	l := []check.Bind{{Name: "a", Kind: api.Money}, {Name: "a", Kind: 9}, {Name: "b", Kind: 1}}
	wasExprs, wasRules, was := slices.Clone(exprs), slices.Clone(rules), slices.Clone(l)
	p := tree.Program{Rules: rules[:1], Exprs: exprs[:4]}
	for range 3 {
		is(t, p, 2, l[:2], api.Money, 0, api.OK)
		is(t, p, 3, l[:2], 0, 0, api.ErrArg)
		is(t, p, 2, nil, 0, 0, api.ErrNone)
	}
	if !slices.Equal(exprs, wasExprs) || !slices.Equal(rules, wasRules) || !slices.Equal(l, was) {
		t.Errorf("%v, %v, %v", exprs, rules, l)
	}
	l[0].Kind = api.Number
	is(t, p, 2, l[:2], api.Number, 0, api.OK)
	l[0].Name = "c"
	is(t, p, 2, l[:2], 0, 0, api.ErrType)
	exprs[0] = whole(1)
	is(t, p, 2, l[:2], api.Number, 0, api.OK)
}
