package tree_test

import (
	"slices"
	"strconv"
	"strings"
	"testing"

	"paymaster/api"
	"paymaster/lex"
	"paymaster/money"
	"paymaster/rate"
	"paymaster/tree"
)

// A second reading, by other means than Parse's: faults by a stack of what has to come yet,
// trees by the last sign that binds the least.

const (
	kinds    = " earn pretax post let "
	language = kinds + "if then else min max "
	compares = " < <= = <> > >= "
)

func among(word, words string) bool {
	return word != "" && strings.Contains(words, " "+word+" ")
}

func isName(k lex.Token) bool {
	return k.Kind == lex.Word && !among(k.Text, language)
}

func isNumber(k lex.Token) bool {
	return k.Kind == lex.Whole || k.Kind == lex.Amount || k.Kind == lex.Percent
}

// due is something that has to come yet: a token of that text, or what these names say, at that depth.
type due struct {
	what  string
	depth int
}

// comes answers what has to come, the first one first, in place of d, where k stands;
// true, if k is a part of it that is read with that; and the error, if k can't be there.
func comes(d due, k lex.Token) ([]due, bool, api.Errno) {
	in := due{"expression", d.depth + 1}
	switch d.what {
	case "expression", "factor":
		if d.depth > 20 {
			return nil, false, api.ErrLong
		}
	}
	switch {
	case d.what == "expression" && k.Text == "if":
		return []due{in, {"then", 0}, in, {"else", 0}, in}, true, api.OK
	case d.what == "expression":
		return []due{{"sum", d.depth}, {"comparison?", d.depth}}, false, api.OK
	case d.what == "sum":
		return []due{{"factor", d.depth}, {"more?", d.depth}}, false, api.OK
	case d.what == "more?" && among(k.Text, " + - * "):
		return []due{{"sum", d.depth}}, true, api.OK
	case d.what == "comparison?" && among(k.Text, compares):
		return []due{{"sum", d.depth}}, true, api.OK
	case strings.HasSuffix(d.what, "?"):
		return nil, false, api.OK
	case d.what == "factor" && k.Text == "-":
		return []due{{"factor", d.depth + 1}}, true, api.OK
	case d.what == "factor" && k.Text == "(":
		return []due{in, {")", 0}}, true, api.OK
	case d.what == "factor" && among(k.Text, " min max "):
		return []due{{"(", 0}, in, {",", 0}, in, {")", 0}}, true, api.OK
	case d.what == "factor" && (isNumber(k) || isName(k)), d.what == "a name" && isName(k), d.what == k.Text:
		return nil, true, api.OK
	}
	return nil, false, api.ErrForm
}

// fault is where the first one of those tokens stands that cannot go on, and its error; OK, if there is none.
func fault(l []lex.Token, end int) (int, api.Errno) {
	rules := 0
	var stack []due // the last one has to come first
	for _, k := range append(slices.Clone(l), lex.Token{At: end}) {
		if len(stack) == 0 {
			switch {
			case k.Kind == 0:
				return 0, api.OK
			case !among(k.Text, kinds):
				return k.At, api.ErrForm
			case rules == 60:
				return k.At, api.ErrLong
			}
			rules++
			stack = []due{{";", 0}, {"expression", 1}, {"=", 0}, {"a name", 0}}
			continue
		}
		for read := false; !read; {
			d := stack[len(stack)-1]
			stack = stack[:len(stack)-1]
			more, with, e := comes(d, k)
			if e != api.OK {
				return k.At, e
			}
			slices.Reverse(more)
			stack = append(stack, more...)
			read = with
		}
	}
	panic("the end has been read, but not all of it has come")
}

// level calls back for each token of l that is in no (), the last one first, until that answers true.
func level(l []lex.Token, back func(i int) bool) bool {
	open := 0
	for i := len(l) - 1; i >= 0; i-- {
		switch l[i].Text {
		case ")":
			open++
		case "(":
			open--
		default:
			if open == 0 && back(i) {
				return true
			}
		}
	}
	return false
}

// lastSign is the place of the last one of those signs with which a second part begins; -1, if there is none.
func lastSign(l []lex.Token, signs string) int {
	at := -1
	level(l, func(i int) bool {
		behind := i > 0 && (l[i-1].Text == ")" || l[i-1].Kind != lex.Sign)
		if behind && among(l[i].Text, signs) {
			at = i
		}
		return at >= 0
	})
	return at
}

// next is where the word of the if stands whose if stands just ahead of l.
func next(l []lex.Token, word string) int {
	inner := 0
	for i, k := range l {
		switch {
		case k.Text == "if":
			inner++
		case inner == 0 && k.Text == word:
			return i
		case k.Text == "else":
			inner--
		}
	}
	panic("no " + word)
}

// build puts the Exprs of l, an expression without a fault, and answers the place of the last one.
func build(p *tree.Program, l []lex.Token) int {
	put := func(x tree.Expr) int {
		p.Exprs = append(p.Exprs, x)
		return len(p.Exprs) - 1
	}
	if l[0].Text == "if" {
		then := 1 + next(l[1:], "then")
		other := then + 1 + next(l[then+1:], "else")
		a, b, c := build(p, l[1:then]), build(p, l[then+1:other]), build(p, l[other+1:])
		return put(tree.Expr{Op: "if", A: a, B: b, C: c})
	}
	for _, signs := range []string{compares, " + - ", " * "} {
		if i := lastSign(l, signs); i >= 0 {
			a, b := build(p, l[:i]), build(p, l[i+1:])
			return put(tree.Expr{Op: l[i].Text, A: a, B: b})
		}
	}
	switch text := l[0].Text; text {
	case "-":
		return put(tree.Expr{Op: "neg", A: build(p, l[1:])})
	case "(":
		return build(p, l[1:len(l)-1])
	case "min", "max":
		both, comma := l[2:len(l)-1], 0
		level(both, func(i int) bool {
			comma = i
			return both[i].Text == ","
		})
		a, b := build(p, both[:comma]), build(p, both[comma+1:])
		return put(tree.Expr{Op: text, A: a, B: b})
	}
	return put(leaf(l[0]))
}

func leaf(k lex.Token) tree.Expr {
	switch k.Kind {
	case lex.Whole:
		n, _ := strconv.Atoi(k.Text)
		return tree.Expr{Op: "whole", Value: n}
	case lex.Amount:
		n, _ := money.Parse(k.Text)
		return tree.Expr{Op: "amount", Value: n}
	case lex.Percent:
		n, _ := rate.Parse(k.Text)
		return tree.Expr{Op: "rate", Value: n}
	}
	return tree.Expr{Op: "name", Name: k.Text}
}

// exact is the answer that P8.1 asks for.
func exact(s string) (tree.Program, int, api.Errno) {
	l, at, e := lex.All(s)
	if e == api.OK {
		at, e = fault(l, len(s))
	}
	if e != api.OK {
		return tree.Program{}, at, e
	}
	var p tree.Program
	for len(l) > 0 {
		end := slices.IndexFunc(l, func(k lex.Token) bool { return k.Text == ";" })
		root := build(&p, l[3:end])
		p.Rules = append(p.Rules, tree.Rule{Kind: l[0].Text, Name: l[1].Text, Root: root})
		l = l[end+1:]
	}
	return p, 0, api.OK
}

func same(p, q tree.Program) bool {
	return slices.Equal(p.Rules, q.Rules) && slices.Equal(p.Exprs, q.Exprs)
}

// check holds Parse of s against exact, and answers what came.
func check(t *testing.T, s string) (tree.Program, int, api.Errno) {
	t.Helper()
	want, wantPlace, wantErr := exact(s)
	got, place, e := tree.Parse(s)
	if !same(got, want) || place != wantPlace || e != wantErr {
		t.Fatalf("Parse(%.300q) = %v, %d, %d; want %v, %d, %d", s, got, place, e, want, wantPlace, wantErr)
	}
	return got, place, e
}
