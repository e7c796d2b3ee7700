package desk_test

import (
	"slices"
	"strings"
	"testing"
)

// Lines that are none.

// none are words with which no line begins.
var none = []string{
	"", " ", "  ", "+", "++", "+x", "+\t", "+let", "+\tlet a = 1;", " + let", "\t+ let", "-", "- let", "#", "# rules", "ok", "error", "error 2", "what", "rule", "ruless", "rules;", "rules.", "Rules", "RULES", "rUles", "rows", "ro", "r", "funds", "schemes", "hired", "fire", "changes", "leaves", "claims", "runs", "ran", "reversed", "undo", "closes", "open", "slips", "years", "accounts", "total", "Totals", "banks",
	"help", "exit", "quit", "book", "plan", "last", "master", "earn pay = base;", "let a = 1;", "\x00", "\x00rules", "rules\x00", "rules\r", "\r", "\trules", "rules\t", "\ufeffrules", "ｒules", "\xff", "rules\xff", "totals,totals", "totals;", "7", "24276", "0.00", "yes", "no",
}

// wrong are lines that are near right ones, and no lines.
func wrong() []string {
	var l []string
	for _, form := range forms {
		words := strings.Fields(form)
		for i, letter := range words[1:] {
			words[i+1] = usual(letter)
		}
		right := strings.Join(words, " ")
		l = append(l, " "+right, right+" ", "  "+right, right+"  ", " "+right+" ", "\t"+right, right+"\t", right+"\r", right+" #", right+" 0", right+" 1.00", right+" yes", right+" no", right+" 0 0", right+" "+right, right+";", "+"+right, "-"+right,
			strings.ToUpper(words[0])+right[len(words[0]):], strings.ToUpper(words[0][:1])+right[1:], right[1:], words[0][:len(words[0])-1]+right[len(words[0]):], words[0]+"s"+right[len(words[0]):])
		for i := range words {
			l = append(l, strings.Join(slices.Insert(slices.Clone(words), i, ""), " "))
			if i > 0 {
				l = append(l, strings.Join(slices.Delete(slices.Clone(words), i, i+1), " "), strings.Join(slices.Insert(slices.Clone(words), i, words[i]), " "), strings.Join(words[:i], " "))
				l = append(l, strings.Join(words[:i], " ")+"\t"+strings.Join(words[i:], " "), strings.Join(words[:i], " ")+"\u00a0"+strings.Join(words[i:], " "), strings.Join(words[:i], "")+strings.Join(words[i:], " "), strings.Join(words[:i], " ")+"  "+strings.Join(words[i:], " "), strings.Join(words[:i], " ")+", "+strings.Join(words[i:], " "))
			}
		}
		for i, letter := range strings.Fields(form)[1:] {
			_, none := all(letter)
			for _, w := range none {
				other := slices.Clone(words)
				other[i+1] = w
				l = append(l, strings.Join(other, " "))
			}
		}
	}
	return append(l, none...)
}

// P23.1: each of them, alone, tells error 2, and nothing else.
func TestWrong(t *testing.T) {
	l := wrong()
	if len(l) < 2000 {
		t.Fatalf("only %d lines", len(l))
	}
	for _, line := range l {
		if line == "" {
			line = "\n"
		}
		if strings.HasPrefix(line, "+ ") {
			t.Fatalf("%q is a line", line)
		}
		if got := holdRun(t, line); got != "error 2\n" {
			t.Errorf("%q told %q", line, got)
		}
	}
}

// P23.1, R3: all of them, wherever they stand in a year, tell error 2, and turn nothing of what the others tell.
func TestWrongChangesNothing(t *testing.T) {
	for l := range slices.Chunk(wrong(), 200) {
		among(t, l, func(told string) bool { return told == "error 2" })
	}
}

// P23.1: each line of a year with a word more, a word less, a blank more at any place, and a byte turned to a capital letter, in its own place: nothing comes of it.
func TestWrongInPlace(t *testing.T) {
	turned := 0
	for at, l := range whole {
		line, _, _ := strings.Cut(l, " => ")
		if strings.HasPrefix(line, "+ ") {
			continue
		}
		var lines []string
		words := strings.Split(line, " ")
		lines = append(lines, line+" 1", line+" ", " "+line, strings.Join(words[:len(words)-1], " "), strings.ToUpper(line[:1])+line[1:], strings.Replace(line, " ", "  ", 1)+" ")
		for i := 1; i < len(words); i++ {
			lines = append(lines, strings.Join(words[:i], " ")+"  "+strings.Join(words[i:], " "))
		}
		want := without(at)
		for _, wrong := range lines {
			var script strings.Builder
			for i, other := range whole {
				line, _, _ := strings.Cut(other, " => ")
				if i == at {
					line = wrong
				}
				script.WriteString(line + "\n")
			}
			turned++
			got := strings.SplitAfter(holdRun(t, script.String()), "\n")
			if got[at] != "error 2\n" || strings.Join(slices.Delete(got, at, at+1), "") != want {
				t.Errorf("%q in place of line %d told %q, or other lines told something else than without it", wrong, at, got[at])
			}
		}
	}
	if turned < 400 {
		t.Errorf("only %d lines", turned)
	}
}

// without is what the year tells without one of its lines.
func without(at int) string {
	var script strings.Builder
	for i, l := range whole {
		if line, _, _ := strings.Cut(l, " => "); i != at {
			script.WriteString(line + "\n")
		}
	}
	return exactRun(script.String())
}
