package check_test

import (
	"fmt"
	"slices"
	"strings"
	"testing"

	"paymaster/api"
	"paymaster/check"
	"paymaster/tree"
)

// A second telling, by other means than Kind's: what root is made of by going down its parts,
// kinds by a list of all that have one, bindings by going through them.

const (
	leaves = " whole amount rate name "
	pairs  = " + - * < <= = <> > >= min max "
	ops    = leaves + "neg if" + pairs
)

// known is, line by line, an Op, the kinds of its parts, and its own. What isn't there has none.
const known = `
whole : 3
amount : 1
rate : 2
neg 1 : 1
neg 3 : 3
+ 1 1 : 1
+ 3 3 : 3
- 1 1 : 1
- 3 3 : 3
* 3 3 : 3
* 1 3 : 1
* 3 1 : 1
* 1 2 : 1
* 2 1 : 1
< 1 1 : 4
< 2 2 : 4
< 3 3 : 4
<= 1 1 : 4
<= 2 2 : 4
<= 3 3 : 4
> 1 1 : 4
> 2 2 : 4
> 3 3 : 4
>= 1 1 : 4
>= 2 2 : 4
>= 3 3 : 4
= 1 1 : 4
= 2 2 : 4
= 3 3 : 4
= 4 4 : 4
<> 1 1 : 4
<> 2 2 : 4
<> 3 3 : 4
<> 4 4 : 4
min 1 1 : 1
min 2 2 : 2
min 3 3 : 3
max 1 1 : 1
max 2 2 : 2
max 3 3 : 3
if 4 1 1 : 1
if 4 2 2 : 2
if 4 3 3 : 3
if 4 4 4 : 4
`

func among(word, words string) bool {
	return word != "" && !strings.Contains(word, " ") && strings.Contains(words, " "+word+" ")
}

// knownKind is 0, if an Op, but name, whose parts are of those kinds has none.
func knownKind(op string, of []int) int {
	line := "\n" + op
	for _, k := range of {
		line += fmt.Sprint(" ", k)
	}
	if strings.ContainsAny(op, " \n:") {
		return 0
	}
	_, behind, there := strings.Cut(known, line+" : ")
	if !there {
		return 0
	}
	return int(behind[0] - '0')
}

// places are those of the parts of x.
func places(x tree.Expr) []int {
	count := 2
	switch {
	case among(x.Op, leaves):
		count = 0
	case x.Op == "neg":
		count = 1
	case x.Op == "if":
		count = 3
	}
	return []int{x.A, x.B, x.C}[:count]
}

// madeOf are the places of what the one at i is made of, in order; false, if there is a part that is not there, or not ahead.
func madeOf(p tree.Program, root int) ([]int, bool) {
	if root < 0 || root >= len(p.Exprs) {
		return nil, false
	}
	seen := map[int]bool{root: true}
	for next := []int{root}; len(next) > 0; next = next[1:] {
		for _, at := range places(p.Exprs[next[0]]) {
			if at < 0 || at >= len(p.Exprs) || at >= next[0] {
				return nil, false
			}
			if !seen[at] {
				seen[at] = true
				next = append(next, at)
			}
		}
	}
	var all []int
	for at := range seen {
		all = append(all, at)
	}
	slices.Sort(all)
	return all, true
}

// exact is the answer that P10.1 asks for.
func exact(p tree.Program, root int, l []check.Bind) (int, int, api.Errno) {
	all, ok := madeOf(p, root)
	if !ok {
		return 0, 0, api.ErrArg
	}
	kinds := map[int]int{}
	for _, at := range all {
		x := p.Exprs[at]
		if x.Op == "name" {
			i := slices.IndexFunc(l, func(b check.Bind) bool { return b.Name == x.Name })
			if i < 0 {
				return 0, at, api.ErrNone
			}
			if l[i].Kind >= 1 && l[i].Kind <= 4 {
				kinds[at] = l[i].Kind
			}
		} else {
			var of []int
			for _, part := range places(x) {
				of = append(of, kinds[part])
			}
			kinds[at] = knownKind(x.Op, of)
		}
		if kinds[at] == 0 {
			return 0, at, api.ErrType
		}
	}
	return kinds[root], 0, api.OK
}

// hold holds Kind against exact, and answers the error that came.
func hold(t *testing.T, p tree.Program, root int, l []check.Bind) api.Errno {
	t.Helper()
	want, wantPlace, wantErr := exact(p, root, l)
	is(t, p, root, l, want, wantPlace, wantErr)
	return wantErr
}

// is: Kind answers that.
func is(t *testing.T, p tree.Program, root int, l []check.Bind, kind int, place int, e api.Errno) {
	t.Helper()
	gotKind, gotPlace, gotErr := check.Kind(p, root, l)
	if gotKind != kind || gotPlace != place || gotErr != e {
		t.Fatalf("Kind(%.600s, %d, %.300s) = %d, %d, %d; want %d, %d, %d", fmt.Sprint(p.Exprs), root, fmt.Sprint(l), gotKind, gotPlace, gotErr, kind, place, e)
	}
}
