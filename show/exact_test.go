package show_test

import (
	"slices"
	"strconv"
	"strings"
	"testing"

	"paymaster/api"
	"paymaster/show"
	"paymaster/tree"
)

// A second telling, by other means than Text's: what stands in () by the chapter's own lists, texts put together
// from those of the parts, and which programs are read of a text by the rules of layer 8, not by reading one.

const (
	kinds    = " earn pretax post let "
	language = kinds + "if then else min max "
	leaves   = " whole amount rate name "
	sums     = " + - "
	compares = " < <= = <> > >= "
	both     = sums + "*" + compares + "min max "
	ops      = leaves + "neg if" + both
)

func among(word, words string) bool {
	return word != "" && !strings.Contains(word, " ") && strings.Contains(words, " "+word+" ")
}

// brackets: does the part of that place (0, 1 or 2) and Op stand in () in an Expr of the other Op?
func brackets(op string, place int, part string) bool {
	loose := " if" + compares
	switch {
	case op == "neg":
		return !among(part, leaves+"min max neg ")
	case op == "*" && place == 0:
		return among(part, loose+"+ - ")
	case op == "*":
		return among(part, loose+"+ - * ")
	case among(op, sums) && place == 0, among(op, compares):
		return among(part, loose)
	case among(op, sums):
		return among(part, loose+"+ - ")
	}
	return false
}

// partsOf are the places of an Expr's parts.
func partsOf(x tree.Expr) []int {
	switch {
	case x.Op == "neg":
		return []int{x.A}
	case among(x.Op, both):
		return []int{x.A, x.B}
	case x.Op == "if":
		return []int{x.A, x.B, x.C}
	}
	return nil
}

// hundredths is the text of a number from 0 on that an amount or a rate is.
func hundredths(n int) string {
	s := strconv.Itoa(n)
	s = strings.Repeat("0", max(0, 3-len(s))) + s
	return s[:len(s)-2] + "." + s[len(s)-2:]
}

// exprText is that of the Expr at i of a program that has one.
func exprText(exprs []tree.Expr, i int) string {
	x := exprs[i]
	var parts [3]string
	for place, at := range partsOf(x) {
		parts[place] = exprText(exprs, at)
		if brackets(x.Op, place, exprs[at].Op) {
			parts[place] = "(" + parts[place] + ")"
		}
	}
	switch x.Op {
	case "whole":
		return strconv.Itoa(x.Value)
	case "amount":
		return hundredths(x.Value)
	case "rate":
		return hundredths(x.Value) + "%"
	case "name":
		return x.Name
	case "neg":
		return "-" + parts[0]
	case "min", "max":
		return x.Op + "(" + parts[0] + ", " + parts[1] + ")"
	case "if":
		return "if " + parts[0] + " then " + parts[1] + " else " + parts[2]
	}
	return parts[0] + " " + x.Op + " " + parts[1]
}

// deepest is the greatest depth at which an expression, or a factor, begins in the Expr at i, which begins at that depth.
func deepest(exprs []tree.Expr, i int, depth int) int {
	x, all := exprs[i], depth
	for place, at := range partsOf(x) {
		in := depth
		if among(x.Op, " neg min max if ") {
			in++
		}
		if brackets(x.Op, place, exprs[at].Op) {
			in++
		}
		all = max(all, deepest(exprs, at, in))
	}
	return all
}

func isName(s string) bool {
	for i, c := range []byte(s) {
		if (c < 'a' || c > 'z') && (i == 0 || c < '0' || c > '9') {
			return false
		}
	}
	return len(s) >= 1 && len(s) <= 12 && !among(s, language)
}

// isLeaf: is it one of no parts that is read of a text?
func isLeaf(x tree.Expr) bool {
	switch x {
	case tree.Expr{Op: "whole", Value: x.Value}:
		return x.Value >= 0 && x.Value <= 999999999
	case tree.Expr{Op: "amount", Value: x.Value}:
		return x.Value >= 0
	case tree.Expr{Op: "rate", Value: x.Value}:
		return x.Value >= 0 && x.Value <= 10000
	case tree.Expr{Op: "name", Name: x.Name}:
		return isName(x.Name)
	}
	return false
}

// copied puts the Exprs of the one at i behind those of q, in the order in which they are read, and answers its place there;
// false, if one of them is none that is read, or if there are more than p has.
func copied(q *tree.Program, p tree.Program, i int) (int, bool) {
	if i < 0 || i >= len(p.Exprs) || len(q.Exprs) >= len(p.Exprs) {
		return 0, false
	}
	x := p.Exprs[i]
	var there [3]int
	parts := partsOf(x)
	if parts == nil && !isLeaf(x) {
		return 0, false
	}
	for place, at := range parts {
		// A part behind what it is a part of, or that itself, could go round for ever.
		to, ok := 0, false
		if at < i {
			to, ok = copied(q, p, at)
		}
		if !ok {
			return 0, false
		}
		there[place] = to
	}
	if parts != nil {
		x = tree.Expr{Op: x.Op, A: there[0], B: there[1], C: there[2]}
	}
	q.Exprs = append(q.Exprs, x)
	return len(q.Exprs) - 1, true
}

// isRead: is p read of a text?
func isRead(p tree.Program) bool {
	var q tree.Program
	for _, r := range p.Rules {
		root, ok := copied(&q, p, r.Root)
		if !ok || !among(r.Kind, kinds) || !isName(r.Name) || deepest(q.Exprs, root, 1) > 20 {
			return false
		}
		q.Rules = append(q.Rules, tree.Rule{Kind: r.Kind, Name: r.Name, Root: root})
	}
	return len(p.Rules) <= 60 && same(p, q)
}

// exact is the answer that P9.1 asks for.
func exact(p tree.Program) (string, api.Errno) {
	if !isRead(p) {
		return "", api.ErrArg
	}
	s := ""
	for _, r := range p.Rules {
		s += r.Kind + " " + r.Name + " = " + exprText(p.Exprs, r.Root) + ";\n"
	}
	return s, api.OK
}

func same(p, q tree.Program) bool {
	return slices.Equal(p.Rules, q.Rules) && slices.Equal(p.Exprs, q.Exprs)
}

// check holds Text of p, and Expr of its places (some of them, if there are many) and of some that are none,
// against the second telling, and answers whether p has a text.
func check(t *testing.T, p tree.Program) bool {
	t.Helper()
	want, wantErr := exact(p)
	if got, e := show.Text(p); got != want || e != wantErr {
		t.Fatalf("Text(%v) = %q, %d; want %q, %d", p, got, e, want, wantErr)
	}
	for i := -2; i < len(p.Exprs)+2; i += 1 + len(p.Exprs)/24 {
		part, partErr := "", api.ErrArg
		if wantErr == api.OK && i >= 0 && i < len(p.Exprs) {
			part, partErr = exprText(p.Exprs, i), api.OK
		}
		if got, e := show.Expr(p, i); got != part || e != partErr {
			t.Fatalf("Expr(%v, %d) = %q, %d; want %q, %d", p, i, got, e, part, partErr)
		}
	}
	return wantErr == api.OK
}
