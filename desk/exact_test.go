package desk_test

import (
	"bytes"
	"fmt"
	"math/big"
	"regexp"
	"slices"
	"strings"
	"testing"

	"paymaster/api"
	"paymaster/book"
	"paymaster/desk"
	"paymaster/engine"
	"paymaster/journal"
	"paymaster/master"
	"paymaster/result"
	"paymaster/value"
	"paymaster/withhold"
)

// A second telling, by other means than the package's: lines by patterns, numbers and amounts of any size, and what is asked of the book
// worked out from its entries, by hand, as the layers' chapters tell it, and not by their calls. (Only the engine's calls, and which
// entries no postings are made of, are the layers' own.)

type exact struct {
	g    *engine.Engine
	text bytes.Buffer // each line ends with a byte 10 here
	rows []api.Row
	fund []withhold.Fund
}

// What stands for each kind of word in the forms: n for a number, a for an amount, y for yes or no.
var kinds = map[string]string{
	"n": `(0|-?[1-9][0-9]{0,14})`,
	"a": `(-?(?:0|[1-9][0-9]*)\.[0-9][0-9])`,
	"y": `(yes|no)`,
}

// forms are the lines of the chapter's table but the first one.
var forms = []string{
	"rules", "row a n", "fund n n a", "scheme a", "hire n n n a a n n y", "change n n n a a n n y", "leave n n", "claim n n n a a",
	"run n", "reverse", "close n", "slip n n", "year n n", "account n n", "totals", "bank n",
}

var patterns = func() map[string]*regexp.Regexp {
	all := map[string]*regexp.Regexp{}
	for _, form := range forms {
		words := strings.Fields(form)
		for i, w := range words[1:] {
			words[i+1] = kinds[w]
		}
		all[strings.Fields(form)[0]] = regexp.MustCompile(`\A` + strings.Join(words, " ") + `\z`)
	}
	return all
}()

// exactRead is a line's first word, and its numbers; no word of one that is none.
func exactRead(line string) (string, []int) {
	for word, pattern := range patterns {
		parts := pattern.FindStringSubmatch(line)
		if parts == nil {
			continue
		}
		var n []int
		for _, part := range parts[1:] {
			x, ok := exactNumber(part)
			if !ok {
				return "", nil
			}
			n = append(n, x)
		}
		return word, n
	}
	return "", nil
}

// exactNumber is what a word stands for that fits its pattern; amounts may be too much, or a nought with -.
func exactNumber(word string) (int, bool) {
	if at := slices.Index([]string{"no", "yes"}, word); at >= 0 {
		return at, true
	}
	x, _ := new(big.Int).SetString(strings.Replace(word, ".", "", 1), 10)
	if x.Sign() == 0 && strings.HasPrefix(word, "-") {
		return 0, false
	}
	return int(x.Int64()), x.CmpAbs(big.NewInt(api.Most)) <= 0
}

// exactAmount is layer 1's text.
func exactAmount(n *big.Int) string {
	sign := ""
	if n.Sign() < 0 {
		sign = "-"
	}
	whole, part := new(big.Int).QuoRem(new(big.Int).Abs(n), big.NewInt(100), new(big.Int))
	return fmt.Sprintf("%s%d.%02d", sign, whole, part)
}

func amounts(l ...int) string {
	var s strings.Builder
	for _, n := range l {
		s.WriteString(" " + exactAmount(big.NewInt(int64(n))))
	}
	return s.String()
}

// exactRun is the report that P23.1 asks for.
func exactRun(script string) string {
	x := exact{g: engine.New()}
	if script == "" {
		return ""
	}
	var report []string
	for _, line := range strings.Split(strings.TrimSuffix(script, "\n"), "\n") {
		report = append(report, x.line(line)+"\n")
	}
	return strings.Join(report, "")
}

func (x *exact) line(line string) string {
	if len(line) >= 2 && line[0] == '+' && line[1] == ' ' {
		x.text.WriteString(line[2:])
		x.text.WriteByte('\n')
		return "ok"
	}
	word, n := exactRead(line)
	switch word {
	case "":
		return "error 2"
	case "row":
		x.rows = append(x.rows, api.Row{Above: n[0], Rate: n[1]})
		return "ok"
	case "fund":
		x.fund = append(x.fund, withhold.Fund{Rate: n[0], Employer: n[1], Ceiling: n[2]})
		return "ok"
	case "rules", "scheme", "hire", "change", "leave", "claim", "run", "reverse", "close":
		return x.tell(word, n)
	}
	return x.ask(word, n)
}

// tell is what the engine does.
func (x *exact) tell(word string, n []int) string {
	e, more := api.OK, -1
	switch word {
	case "rules":
		text := strings.TrimSuffix(x.text.String(), "\n")
		x.text.Reset()
		more, e = x.g.Rules(text)
		if e == api.OK {
			more = -1
		}
	case "scheme":
		e = x.g.Scheme(withhold.Scheme{Rows: x.rows, Funds: x.fund}, n[0])
		x.rows, x.fund = nil, nil
	case "hire", "change":
		r := master.Record{From: n[1], Centre: n[2], In: value.Inputs{Base: n[3], Bonus: n[4], Hours: n[5], Days: n[6], Lead: n[7] > 0}}
		call := map[string]func(int, master.Record) api.Errno{"hire": x.g.Hire, "change": x.g.Change}[word]
		e = call(n[0], r)
	case "leave":
		e = x.g.Leave(n[0], n[1])
	case "claim":
		e = x.g.Claim(n[0], api.Order{Creditor: n[1], Priority: n[2], Claim: n[3], Balance: n[4]})
	case "run":
		if more, e = x.g.Run(n[0]); e != api.OK {
			more = -1
		}
	case "reverse":
		if more, e = x.g.Reverse(); e != api.OK {
			more = -1
		}
	case "close":
		e = x.g.Close(n[0])
	}
	s := "ok"
	if e != api.OK {
		s = fmt.Sprintf("error %d", e)
	}
	if more >= 0 {
		s += fmt.Sprintf(" %d", more)
	}
	return s
}

// live are the entries that count.
func (x *exact) live() []book.Entry {
	var l []book.Entry
	all := x.g.Book().Entries
	for at, e := range all {
		if e.Back == 0 && !slices.ContainsFunc(all, func(o book.Entry) bool { return o.Back == at+1 }) {
			l = append(l, e)
		}
	}
	return l
}

// ask is what is told of what there is.
func (x *exact) ask(word string, n []int) string {
	switch word {
	case "slip":
		for _, e := range x.live() {
			if e.Id == n[0] && e.Period == n[1] {
				return "ok " + exactSlip(e)
			}
		}
		return "error 5"
	case "year":
		taxable, base, tax := 0, 0, 0
		for _, e := range x.live() {
			if e.Id == n[0] && e.Period/12 == n[1] {
				taxable, base, tax = taxable+e.R.Taxable, base+e.R.Raw.Gross+e.R.Extra.Gross, tax+e.R.Tax
			}
		}
		return "ok" + amounts(taxable, base, tax)
	case "bank":
		return x.bank(n[0])
	}
	postings, ok := x.postings()
	if !ok {
		return "error 3"
	}
	if word == "account" {
		return balance(postings, n[0], n[1])
	}
	return totals(postings)
}

func exactSlip(e book.Entry) string {
	r := e.R
	s := fmt.Sprintf("slip %d %d", e.Id, e.Period)
	for _, l := range r.Lines {
		s += " / line " + l.Kind + " " + l.Name + amounts(l.Amount)
	}
	sums := func(s result.Sums) string { return amounts(s.Gross, s.Pretax, s.Post) }
	return s + " / raw" + sums(r.Raw) + " / extra" + sums(r.Extra) + " / taxable" + amounts(r.Taxable) + " / tax" + amounts(r.Tax) +
		" / paid" + amounts(r.Paid...) + " / owed" + amounts(r.Owed...) + " / taken" + amounts(r.Taken, r.Held) + " / garnished" + amounts(r.Garnished...) + " / net" + amounts(r.Net, r.Short)
}

func (x *exact) orders(id int) []api.Order {
	for _, p := range x.g.Master().People {
		if p.Id == id {
			return p.Orders
		}
	}
	return nil
}

// postings are those of all entries, without noughts, in no order; false, if an entry has none, as an amount is too much.
func (x *exact) postings() ([]journal.Posting, bool) {
	var l []journal.Posting
	for _, e := range x.g.Book().Entries {
		orders := x.orders(e.Id)
		if _, fault := journal.Of(e, orders); fault != api.OK {
			return nil, false
		}
		some := map[int]int{
			4000: e.R.Raw.Gross + e.R.Extra.Gross, 1700: e.R.Short, 2000: -e.R.Net, 2100: -e.R.Tax,
			2300: -e.R.Raw.Pretax - e.R.Extra.Pretax, 2400: -e.R.Taken,
		}
		for i := range e.R.Paid {
			some[4100] += e.R.Owed[i]
			some[2200+i] = -e.R.Paid[i] - e.R.Owed[i]
		}
		for i, n := range e.R.Garnished {
			some[3000+orders[i].Creditor] = -n
		}
		for account, n := range some {
			if e.Back > 0 {
				n = -n
			}
			if n != 0 {
				l = append(l, journal.Posting{Account: account, Centre: e.Centre, Amount: n})
			}
		}
	}
	return l, true
}

func balance(l []journal.Posting, account int, centre int) string {
	sum := new(big.Int)
	for _, p := range l {
		if p.Account == account && (p.Centre == centre || centre < 0) {
			sum.Add(sum, big.NewInt(int64(p.Amount)))
		}
	}
	return "ok " + exactAmount(sum)
}

func totals(l []journal.Posting) string {
	var sides [2]big.Int
	for _, p := range l {
		side := 0
		if p.Amount < 0 {
			side = 1
		}
		sides[side].Add(&sides[side], new(big.Int).Abs(big.NewInt(int64(p.Amount))))
	}
	if new(big.Int).Add(&sides[0], &sides[1]).Cmp(big.NewInt(1<<53)) > 0 {
		return "error 3"
	}
	return "ok " + exactAmount(&sides[0]) + " " + exactAmount(&sides[1])
}

// bank is the file's text; the lines of one Kind are in order, once they are sorted as texts.
func (x *exact) bank(period int) string {
	if period < 1900*12 || period >= 3000*12 {
		return "error 1"
	}
	var people, creditors []string
	owed, sum := map[int]int{}, 0
	for _, e := range x.live() {
		if e.Period != period {
			continue
		}
		sum += e.R.Net
		if e.R.Net > 0 {
			people = append(people, fmt.Sprintf(" / E%010d%016d", e.Id, e.R.Net))
		}
		for i, n := range e.R.Garnished {
			owed[x.orders(e.Id)[i].Creditor] += n
			sum += n
		}
	}
	for creditor, n := range owed {
		if n > 0 {
			creditors = append(creditors, fmt.Sprintf(" / C%010d%016d", creditor, n))
		}
	}
	slices.Sort(people)
	slices.Sort(creditors)
	l := append(people, creditors...)
	return fmt.Sprintf("ok H%05d%s / T%04d%020d", period, strings.Join(l, ""), len(l), sum)
}

// holdRun is Run, held against the second telling.
func holdRun(t *testing.T, script string) string {
	t.Helper()
	got, want := desk.Run(script), exactRun(script)
	if got == want {
		return got
	}
	script, g, w := strings.TrimSuffix(script, "\n"), strings.SplitAfter(got, "\n"), strings.SplitAfter(want, "\n")
	for i, line := range strings.Split(script, "\n") {
		if i >= len(g) || i >= len(w) || g[i] != w[i] {
			t.Fatalf("line %d, %.300q: the report is %.1000q, not %.1000q", i, line, g[min(i, len(g)):], w[min(i, len(w)):])
		}
	}
	t.Fatalf("Run(%.1000q): %.1000q, not %.1000q", script, got, want)
	return ""
}
