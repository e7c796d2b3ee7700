package desk_test

import (
	"strconv"
	"strings"
	"testing"
)

// Each error of the layers below, by its number. (Those of rules, with their places, are in TestTextErrors; those of scheme in TestScheme.)

// P23.1: hire: 1, 6, 9; change: 1, 5; leave: 1, 5; claim: 1, 5, 6, 9.
func TestPeopleErrors(t *testing.T) {
	tells(t,
		"change 7 24276 3 1.00 1.00 1 1 no => error 5", "leave 7 24277 => error 5", "claim 7 40 1 1.00 1.00 => error 5", "claim 0 0 0 0.00 0.00 => error 5", "leave 0 0 => error 5", "change 0 24276 3 1.00 1.00 1 1 no => error 1",
		"hire 7 24276 3 1.00 1.00 1 1 no => ok", "hire 7 24276 3 1.00 1.00 1 1 no => error 6", "hire 7 24276 1000 1.00 1.00 1 1 no => error 1", "hire 8 24276 1000 1.00 1.00 1 1 no => error 1",
		"change 7 24275 3 1.00 1.00 1 1 no => error 1", "change 7 24277 3 1.00 1.00 1 -1 no => error 1", "change 8 24277 3 1.00 1.00 1 1 no => error 5", "change 7 24277 3 1.00 1.00 1 1 no => ok",
		"leave 7 24276 => error 1", "leave 7 36000 => error 1", "leave 8 24277 => error 5", "leave 7 24277 => ok", "leave 7 24278 => ok",
		"claim 7 0 1 1.00 1.00 => error 1", "claim 7 1000 1 1.00 1.00 => error 1", "claim 7 1 0 1.00 1.00 => error 1", "claim 7 1 1000 1.00 1.00 => error 1", "claim 7 1 1 0.00 1.00 => error 1", "claim 7 1 1 1.00 0.00 => error 1", "claim 8 1 1 1.00 1.00 => error 5",
		"claim 7 1 1 1.00 1.00 => ok", "claim 7 1 2 2.00 2.00 => error 6", "claim 7 2 1 1.00 1.00 => ok", "claim 7 3 1 1.00 1.00 => ok", "claim 7 4 1 1.00 1.00 => ok", "claim 7 5 1 1.00 1.00 => ok", "claim 7 6 1 1.00 1.00 => ok", "claim 7 7 1 1.00 1.00 => ok", "claim 7 999 999 1.00 1.00 => ok", "claim 7 9 1 1.00 1.00 => error 9", "claim 7 8 1 1.00 1.00 => error 9", "claim 7 7 1 1.00 1.00 => error 6",
	)
	var many []string
	for i := range 50 {
		many = append(many, "hire "+strconv.Itoa(100-i)+" 24276 3 1.00 1.00 1 1 no => ok")
	}
	tells(t, append(many, "hire 7 24276 3 1.00 1.00 1 1 no => error 9", "hire 100 24276 3 1.00 1.00 1 1 no => error 6", "hire 0 24276 3 1.00 1.00 1 1 no => error 1", "leave 100 24277 => ok", "hire 7 24276 3 1.00 1.00 1 1 no => error 9")...)
}

// P23.1: run: 1, 3, 5, 10; reverse: 5, 10; close: 1, 10.
func TestRunErrors(t *testing.T) {
	tells(t, "run 24276 => error 5", "run 5 => error 5", "reverse => error 5", "row 0.00 0 => ok", "scheme 0.00 => ok", "run 24276 => error 5", "rules => ok", "run 5 => error 1", "run 24276 => ok 0")
	tells(t, "rules => ok", "run 24276 => error 5", "row 0.00 0 => ok", "run 24276 => error 5", "scheme 0.00 => ok", "run 24276 => ok 0", "run 24276 => error 10", "run 24275 => error 10", "run 24277 => ok 0", "reverse => ok 0", "run 24276 => error 10", "reverse => ok 0", "reverse => error 5", "run 24275 => ok 0",
		"close 1899 => error 1", "close 2021 => ok", "close 2021 => error 10", "close 2020 => error 10", "close 0 => error 1", "reverse => ok 0", "run 24276 => ok 0", "close 2023 => ok", "reverse => error 10", "run 24277 => error 10", "run 24287 => error 10", "run 24288 => ok 0", "reverse => ok 0", "close 2999 => ok", "run 35999 => error 10", "close 2999 => error 10")
	// What somebody's rules are worth is too much: nobody has an entry of that run.
	tells(t, "+ earn pay = base * 33; => ok", "+ let big = bonus * bonus * bonus * 0; => ok", "rules => error 7 1", "+ earn pay = base * 33; => ok", "+ let big = hours * hours * hours; => ok", "rules => ok", "row 0.00 0 => ok", "scheme 0.00 => ok",
		"hire 3 24276 3 1.00 0.00 0 0 no => ok", "hire 7 24276 4 10995116277.76 0.00 0 0 no => ok", "run 24276 => error 3", "totals => ok 0.00 0.00", "slip 3 24276 => error 5", "reverse => error 5",
		"change 7 24276 4 10000000000.00 0.00 3000000 0 no => ok", "run 24276 => error 3", "change 7 24276 4 10000000000.00 0.00 2000000 0 no => ok", "run 24276 => ok 2", "year 7 2023 => ok 330000000000.00 330000000000.00 0.00", "reverse => ok 2")
}

// sums are rules by which so many lines are 32 times the base, each.
func sums(kind string, many int) []string {
	var l []string
	for i := range many {
		l = append(l, "+ "+kind+" "+kind+strconv.Itoa(i)+" = base * 32; => ok")
	}
	return l
}

// P23.1: account and totals: 3, where an entry has too much; totals also, where all together is too much.
func TestJournalErrors(t *testing.T) {
	ready := []string{"rules => ok", "row 0.00 0 => ok", "scheme 0.00 => ok"}
	// 20 earn and 40 pretax lines of 2^45: the pretax is 2^50 and more.
	tells(t, append(append(append(sums("earn", 20), sums("pretax", 40)...), ready...),
		"hire 3 24276 3 1.00 0.00 0 0 no => ok", "run 24276 => ok 1", "account 2300 3 => ok -1280.00", "totals => ok 1280.00 1280.00",
		"hire 7 24277 3 10995116277.76 0.00 0 0 no => ok", "run 24277 => ok 2", "account 2300 3 => error 3", "account 9 9 => error 3", "totals => error 3", "year 7 2023 => ok -7036874417766.40 7036874417766.40 0.00", "bank 24277 => ok H24277 / T000000000000000000000000",
		"reverse => ok 2", "account 2300 3 => error 3", "totals => error 3")...)
	// 32 lines of 2^45: 2^50 for each of four people, twice, is 2^53, and not yet too much.
	people := []string{"hire 1 24276 3 10995116277.76 0.00 0 0 no => ok", "hire 2 24276 3 10995116277.76 0.00 0 0 no => ok", "hire 3 24276 3 10995116277.76 0.00 0 0 no => ok"}
	ready = append(append(sums("earn", 32), "+ earn more = bonus; => ok"), ready...)
	tells(t, append(append(ready[:len(ready):len(ready)], people...), "hire 4 24276 4 10995116277.76 0.00 0 0 no => ok", "run 24276 => ok 4", "totals => ok 45035996273704.96 45035996273704.96", "account 4000 -1 => ok 45035996273704.96", "account 2000 3 => ok -33776997205278.72", "account 2000 4 => ok -11258999068426.24",
		"bank 24276 => ok H24276 / E00000000011125899906842624 / E00000000021125899906842624 / E00000000031125899906842624 / E00000000041125899906842624 / T000400004503599627370496",
		"reverse => ok 4", "totals => error 3", "account 4000 -1 => ok 0.00")...)
	tells(t, append(append(ready[:len(ready):len(ready)], people...), "hire 4 24276 4 10995116277.76 0.00 0 0 no => ok", "hire 5 24276 5 0.00 0.01 0 0 no => ok", "run 24276 => ok 5", "totals => error 3", "account 4000 -1 => ok 45035996273704.97", "account 4000 5 => ok 0.01")...)
	tells(t, append(append(ready[:len(ready):len(ready)], people...), "hire 4 24276 4 10995116277.76 0.01 0 0 no => ok", "run 24276 => error 3", "totals => ok 0.00 0.00")...)
}

// P23.1: slip: 5; bank: 1.
func TestSlipAndBankErrors(t *testing.T) {
	tells(t, begun("slip 7 24276 => error 5", "bank 22799 => error 1", "bank 36000 => error 1", "bank 7 => error 1", "hire 7 24276 3 1000.00 0.00 0 0 no => ok", "slip 7 24276 => error 5", "run 24276 => ok 1", "slip 7 24277 => error 5", "slip 8 24276 => error 5", "slip 0 0 => error 5", "bank 22799 => error 1", "reverse => ok 1", "slip 7 24276 => error 5", "bank 36000 => error 1")...)
}

// R3: lines that tell an error, wherever they stand in a year, turn nothing of what the others tell. (Those of rules and scheme empty what they are of.)
func TestErrorsChangeNothing(t *testing.T) {
	errors := []string{
		"hire 0 24276 3 1.00 1.00 1 1 no", "hire 2147483648 24276 3 1.00 1.00 1 1 no", "hire 7 24276 1000 1.00 1.00 1 1 no", "hire 8 24276 3 -1.00 1.00 1 1 no", "hire 8 5 3 1.00 1.00 1 1 no", "hire 8 24276 3 1.00 1.00 1 -1 yes",
		"change 7 22800 3 1.00 1.00 1 1 no", "change 99 24276 3 1.00 1.00 1 1 no", "change 2 24276 -1 1.00 1.00 1 1 no", "leave 7 22800", "leave 99 24300", "leave 2 5", "claim 99 40 1 1.00 1.00", "claim 7 40 0 1.00 1.00", "claim 2 41 1 1.00 0.00",
		"run 5", "run 22799", "run 36000", "run 0", "close 1899", "close 3000", "close -2023", "slip 99 24276", "slip 7 5", "slip 2 24276", "bank 5", "bank 36000", "bank -24276",
		"", "what", "totals 1", "row", "fund", "scheme", "rules 1", "+", "+let",
	}
	among(t, errors, func(told string) bool { return strings.HasPrefix(told, "error ") })
}

// What is asked turns nothing, either.
func TestAskingChangesNothing(t *testing.T) {
	among(t, []string{"slip 7 24276", "slip 2 24277", "slip 99 24276", "year 7 2023", "year 2 2023", "year 99 0", "account 4000 3", "account 2000 -1", "account 0 0", "totals", "bank 24276", "bank 24277", "bank 5"}, func(told string) bool {
		return strings.HasPrefix(told, "ok ") || told == "error 5" || told == "error 1"
	})
}

// among puts those lines between all lines of the whole year, and checks what they tell, and that the others tell what they told.
func among(t *testing.T, more []string, fits func(told string) bool) {
	t.Helper()
	var script strings.Builder
	between := strings.Join(more, "\n") + "\n"
	for _, l := range whole {
		line, _, _ := strings.Cut(l, " => ")
		script.WriteString(between + line + "\n")
	}
	lines := strings.Split(strings.TrimSuffix(holdRun(t, script.String()), "\n"), "\n")
	if len(lines) != len(whole)*(len(more)+1) {
		t.Fatalf("%d lines, not %d", len(lines), len(whole)*(len(more)+1))
	}
	for i, told := range lines {
		at, place := i/(len(more)+1), i%(len(more)+1)
		_, want, _ := strings.Cut(whole[at], " => ")
		if place < len(more) && !fits(told) {
			t.Errorf("ahead of line %d, %q told %q", at, more[place], told)
		}
		if place == len(more) && told != want {
			t.Fatalf("line %d, %.300q, told %q behind them", at, whole[at], told)
		}
	}
}
