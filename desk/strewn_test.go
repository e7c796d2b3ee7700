package desk_test

import (
	"slices"
	"strconv"
	"strings"
	"sync"
	"testing"

	"paymaster/desk"
)

// Strewn scripts: lines of all kinds, in any order, right and wrong ones, held against the second telling.

type strewn uint64

func (g *strewn) below(n int) int {
	*g = *g*6364136223846793005 + 1442695040888963407
	return int(*g>>33) % n
}

func (g *strewn) from(l ...string) string { return l[g.below(len(l))] }

// number is from least to most, as a word.
func (g *strewn) number(least, most int) string {
	return strconv.Itoa(least + g.below(most-least+1))
}

// amount is below a bound in whole units.
func (g *strewn) amount(bound int) string {
	return g.number(0, bound-1) + g.from(".00", ".00", ".50", ".07", ".99")
}

func (g *strewn) period() string { return g.number(24274, 24304) }

// record is the words behind an id.
func (g *strewn) record() string {
	return g.period() + " " + g.number(0, 3) + " " + g.amount(9000) + " " + g.amount(g.below(700)+1) + " " + g.number(0, 170) + " " + g.number(0, 31) + " " + g.from("yes", "no")
}

func (g *strewn) id() string { return g.number(1, 6) }

var ruleLines = []string{
	"earn pay = base;", "earn extra = bonus + 13.37 * hours;", "pretax plan = base * share;", "let share = if lead then 12.50% else 4.00%;", "post meal = 3.33 * days;", "post tool = if hours > 100 then base else 7.77;", "", "# nothing", "  earn # of all", "other = base * 2;", "earn less = 0.00 - bonus;",
	"let share = 1.00%;", "earn one = hours;", "let a = b; let b = a;", "pretax who = nobody;", "let", "earn pay = 1.5;", "post days = base;",
}

// rules are lines that are most often taken.
func (g *strewn) rules() []string {
	l := []string{"+ " + ruleLines[0], "+ " + ruleLines[1], "+ " + ruleLines[2], "+ " + ruleLines[3], "+ " + ruleLines[4]}
	for range g.below(3) {
		l = append(l, "+ "+ruleLines[5+g.below(3)])
	}
	if g.below(3) == 0 {
		l = append(l, "+ "+ruleLines[g.below(len(ruleLines))])
	}
	return append(l, "rules")
}

func (g *strewn) scheme() []string {
	var l []string
	above := 0
	for range 1 + g.below(4) {
		l = append(l, "row "+strconv.Itoa(above)+".00 "+g.number(0, 4000))
		above += g.below(6000) + g.below(8)/7
	}
	for range g.below(4) {
		l = append(l, "fund "+g.number(0, 900)+" "+g.number(0, 900)+" "+g.amount(30000))
	}
	return append(l, "scheme "+g.amount(2000))
}

// some are a line, or a few that belong together.
func (g *strewn) some(period *int) []string {
	switch g.below(24) {
	case 0:
		return g.rules()
	case 1:
		return g.scheme()
	case 2, 3:
		return []string{"hire " + g.id() + " " + g.record()}
	case 4, 5, 6:
		return []string{"change " + g.id() + " " + g.record()}
	case 7:
		return []string{"leave " + g.id() + " " + g.period()}
	case 8, 9:
		return []string{"claim " + g.id() + " " + g.number(1, 12) + " " + g.number(1, 3) + " " + g.amount(900) + " " + g.amount(4000)}
	case 10, 11, 12:
		*period += g.below(7) / 3
		return []string{"run " + strconv.Itoa(*period)}
	case 13:
		*period--
		return []string{"reverse"}
	case 14:
		if g.below(6) > 0 {
			return []string{"close " + g.from("1899", "1950", "2021", "3000")}
		}
		*period += 12
		return []string{"close " + strconv.Itoa((*period-12)/12), "reverse"}
	case 15, 16:
		return []string{"slip " + g.id() + " " + strconv.Itoa(*period-g.below(3))}
	case 17:
		return []string{"year " + g.id() + " " + g.number(2022, 2025)}
	case 18, 19:
		return []string{"account " + g.from("4000", "4100", "1700", "2000", "2100", "2200", "2201", "2202", "2300", "2400", "3001", "3007", "3012", "9") + " " + g.number(-1, 3)}
	case 20:
		return []string{"totals"}
	case 21, 22:
		return []string{"bank " + strconv.Itoa(*period-g.below(3))}
	}
	return []string{g.word(), g.from("+ ", "+ # what", "+ let", "rules", "row 0.00 1000", "fund 1 2 3.00", "scheme 0.00", "what")}
}

// word is a line of words that may be of any kind.
func (g *strewn) word() string {
	l := []string{strings.Fields(forms[g.below(len(forms))])[0]}
	for range g.below(9) {
		l = append(l, g.from(g.from(rightNumbers...), g.from(wrongNumbers...), g.from(rightAmounts...), g.from(wrongAmounts...), "yes", "no", "24276", "7", "1.00"))
	}
	return strings.Join(l, " ")
}

// script has so many lines, or some more; most often it begins with rules, a scheme and people.
func (g *strewn) script(many int) string {
	var l []string
	if g.below(10) > 0 {
		l = append(g.rules(), g.scheme()...)
		for id := range 5 {
			l = append(l, "hire "+strconv.Itoa(id+1)+" 24276 "+g.number(0, 3)+" "+g.amount(9000)+" "+g.amount(500)+" "+g.number(0, 170)+" "+g.number(0, 31)+" "+g.from("yes", "no"))
		}
	}
	period := 24276
	for len(l) < many {
		l = append(l, g.some(&period)...)
	}
	return strings.Join(l, "\n") + g.from("\n", "\n", "", "\n\n")
}

// P23.1: strewn scripts; there is all that may be told.
func TestStrewnScripts(t *testing.T) {
	g := strewn(23)
	told := map[string]int{}
	for range 1500 {
		script := g.script(20 + g.below(80))
		lines := strings.Split(script, "\n")
		for i, l := range strings.Split(strings.TrimSuffix(holdRun(t, script), "\n"), "\n") {
			word, _, _ := strings.Cut(lines[i], " ")
			answer := strings.Split(l, " ")
			if answer[0] == "error" {
				answer[0] += answer[1]
			}
			told[word+" "+answer[0]]++
		}
	}
	for _, seldom := range []string{
		"+ ok", "rules ok", "rules error2", "rules error5", "rules error6", "rules error7", "rules error8", "row ok", "fund ok", "scheme ok", "scheme error1", "hire ok", "hire error6", "change ok", "change error1", "change error5", "leave ok", "leave error1", "leave error5", "claim ok", "claim error5", "claim error6",
		"run ok", "run error5", "run error10", "reverse ok", "reverse error5", "reverse error10", "close ok", "close error1", "close error10", "slip ok", "slip error5", "year ok", "account ok", "totals ok", "bank ok", "what error2",
	} {
		if told[seldom] < 20 {
			t.Errorf("%q came %d times", seldom, told[seldom])
		}
	}
	if told["slip ok"] < 500 || told["bank ok"] < 3000 || told["run ok"] < 2500 {
		t.Errorf("told %v", told)
	}
}

// turned is a script of which a few bytes are others, or lines or words are moved.
func (g *strewn) turned(s string) string {
	text := []byte(s)
	for range 1 + g.below(8) {
		if len(text) == 0 {
			break
		}
		at := g.below(len(text))
		switch g.below(6) {
		case 0:
			text = slices.Delete(text, at, at+1)
		case 1:
			text = slices.Insert(text, at, byte(g.below(256)))
		case 2:
			text = slices.Insert(text, at, text[g.below(len(text))])
		case 3:
			text[at] = text[g.below(len(text))]
		case 4:
			text[at] = " \n/.-0+"[g.below(7)]
		case 5:
			other := g.below(len(text))
			text[at], text[other] = text[other], text[at]
		}
	}
	return string(text)
}

// P1, P23.1: scripts of which bytes are turned, and of bytes alone.
func TestStrewnBytes(t *testing.T) {
	g := strewn(231)
	for range 1500 {
		holdRun(t, g.turned(g.script(20+g.below(40))))
	}
	for range 4000 {
		s := make([]byte, g.below(60))
		for i := range s {
			s[i] = byte(g.below(256))
			if g.below(2) == 0 {
				s[i] = "+ \nrultoasbnk0123456789.-"[g.below(25)]
			}
		}
		holdRun(t, string(s))
	}
}

// P23.2: the report of a script is that of its beginning, and more: for each line at which it may end.
func TestBeginnings(t *testing.T) {
	g := strewn(232)
	for range 60 {
		script := g.script(60)
		report := holdRun(t, script)
		lines := strings.SplitAfter(script, "\n")
		for n := range lines {
			got := desk.Run(strings.Join(lines[:n], ""))
			if !strings.HasPrefix(report, got) || strings.Count(got, "\n") != n {
				t.Fatalf("of %d lines of %q: %q", n, script, got)
			}
		}
		if got := desk.Run(script + strings.Repeat("\n", g.below(2)) + "\ntotals\n"); !strings.HasPrefix(got, report) {
			t.Fatalf("with more behind, %q: %q", script, got)
		}
	}
}

// R4, P23.2: the same script has the same report, whatever was run ahead of it, and beside it.
func TestSameReport(t *testing.T) {
	g := strewn(233)
	var scripts, reports []string
	for range 40 {
		scripts = append(scripts, g.script(70))
		reports = append(reports, holdRun(t, scripts[len(scripts)-1]))
	}
	var all sync.WaitGroup
	for n := range 4 {
		all.Add(1)
		go func() {
			defer all.Done()
			for i := range scripts {
				at := (i*7 + n*11) % len(scripts)
				if got := desk.Run(scripts[at]); got != reports[at] {
					t.Errorf("the script %q, once more: %q", scripts[at], got)
				}
			}
		}()
	}
	all.Wait()
}

// P23.1: long scripts: many lines of rules, and many people over years.
func TestLong(t *testing.T) {
	if got := desk.Run(strings.Repeat("+ # nothing\n", 200000) + "rules"); got != strings.Repeat("ok\n", 200001) {
		t.Errorf("rules of 200,000 lines: %q", got[max(0, len(got)-100):])
	}
	if got := desk.Run(strings.Repeat("+ let\n", 1000) + "rules"); !strings.HasSuffix(got, "ok\nerror 2 4\n") {
		t.Errorf("of wrong lines: %q", got[max(0, len(got)-100):])
	}
	if got := desk.Run(strings.Repeat("totals ", 100000)); got != "error 2\n" {
		t.Errorf("a long line: %.100q", got)
	}
	if got := desk.Run("year 7 " + strings.Repeat("0", 100000)); got != "error 2\n" {
		t.Errorf("a long number: %.100q", got)
	}
	var l []string
	for _, line := range begun() {
		line, _, _ = strings.Cut(line, " => ")
		l = append(l, line)
	}
	for id := range 50 {
		l = append(l, "hire "+strconv.Itoa(50-id)+" 24276 "+strconv.Itoa(id%7)+" "+strconv.Itoa(1000+id)+".00 0.00 0 0 no", "claim "+strconv.Itoa(50-id)+" "+strconv.Itoa(id%9+1)+" 1 20.00 100.00")
	}
	for period := range 14 {
		at := strconv.Itoa(24276 + period)
		l = append(l, "change "+strconv.Itoa(period+1)+" 24276 9 1234.56 0.00 0 0 no", "run "+at, "bank "+at, "totals", "slip "+strconv.Itoa(period+1)+" "+at)
	}
	holdRun(t, strings.Join(l, "\n"))
}
