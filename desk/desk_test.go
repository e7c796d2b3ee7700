package desk_test

import (
	"strconv"
	"strings"
	"testing"

	"paymaster/desk"
)

// tells runs a script whose lines stand ahead of =>, and checks that each tells what stands behind it; so does each beginning of it, with
// and without a byte 10 at its end (P23.2).
func tells(t *testing.T, lines ...string) {
	t.Helper()
	script, want := "", ""
	for i, l := range lines {
		line, told, ok := strings.Cut(l, " => ")
		if !ok {
			t.Fatalf("%q tells nothing", l)
		}
		script, want = script+line+"\n", want+told+"\n"
		ends := []string{script}
		if line != "" { // of an empty one the byte 10 has to stand
			ends = append(ends, strings.TrimSuffix(script, "\n"))
		}
		for _, s := range ends {
			if got := desk.Run(s); got != want {
				t.Fatalf("line %d, %.300q, told %.2000q, not %.2000q", i, line, lastLine(got), told)
			}
		}
	}
	holdRun(t, script)
}

func lastLine(report string) string {
	report = strings.TrimSuffix(report, "\n")
	return report[strings.LastIndex(report, "\n")+1:]
}

// begun are lines ahead of which there is nothing, and behind which there are rules and a scheme.
func begun(lines ...string) []string {
	return append([]string{"+ earn pay = base; => ok", "+ post meal = 10.00; => ok", "rules => ok", "row 0.00 1000 => ok", "fund 500 700 1500.00 => ok", "scheme 0.00 => ok"}, lines...)
}

// The ten examples of the whole.
func TestTenExamples(t *testing.T) {
	tells(t,
		"run 24276 => error 5",
		"+ earn pay = base; => ok",
		"+ post meal = 10.00; => ok",
		"rules => ok",
		"row 0.00 1000 => ok",
		"fund 500 700 1500.00 => ok",
		"scheme 0.00 => ok",
		"hire 7 24276 3 1000.00 0.00 0 0 no => ok",
		"claim 7 40 1 50.00 80.00 => ok",
		"run 24276 => ok 1",
		"account 4000 3 => ok 1000.00",
		"totals => ok 1070.00 1070.00",
		"year 7 2023 => ok 1000.00 1000.00 100.00",
		"change 7 24276 3 1100.00 0.00 0 0 no => ok",
		"run 24277 => ok 1",
		"year 7 2023 => ok 2200.00 2200.00 220.00",
		"reverse => ok 1",
		"close 2023 => ok",
		"reverse => error 10",
		"+ let => ok",
		"rules => error 2 3",
		"slip 7 24277 => error 5",
		"hire 7 24276 3 1.00 0.00 0 0 no => error 6",
		"scheme 1.00 => error 1",
		"what => error 2",
	)
}

// The chapter's example.
func TestExample(t *testing.T) {
	tells(t, "+ earn a = base; => ok", "rules => ok")
}

// P23.1: lines are parted by the byte 10, and one at the script's end ends its last line; an empty script has none.
func TestLines(t *testing.T) {
	for script, want := range map[string]string{
		"": "", "\n": "error 2\n", "\n\n": "error 2\nerror 2\n", "\n\n\n": "error 2\nerror 2\nerror 2\n",
		"totals": "ok 0.00 0.00\n", "totals\n": "ok 0.00 0.00\n", "totals\n\n": "ok 0.00 0.00\nerror 2\n", "\ntotals": "error 2\nok 0.00 0.00\n", "\ntotals\n": "error 2\nok 0.00 0.00\n",
		"totals\ntotals": "ok 0.00 0.00\nok 0.00 0.00\n", "totals\n\ntotals\n": "ok 0.00 0.00\nerror 2\nok 0.00 0.00\n",
		"+ ": "ok\n", "+ \n": "ok\n", "+": "error 2\n", "+\n": "error 2\n", "+\n ": "error 2\nerror 2\n", "+ \n\n": "ok\nerror 2\n", "+ \n+ ": "ok\nok\n",
		" ": "error 2\n", " \n": "error 2\n", "\r\n": "error 2\n", "totals\r\ntotals": "error 2\nok 0.00 0.00\n", "totals\rtotals": "error 2\n", "totals\x00": "error 2\n", "totals\u2028totals": "error 2\n",
		"totals;totals": "error 2\n", "totals / totals": "error 2\n",
	} {
		if got := holdRun(t, script); got != want {
			t.Errorf("Run(%q): %q, not %q", script, got, want)
		}
	}
	for n := range 40 {
		if got := holdRun(t, strings.Repeat("\n", n)); got != strings.Repeat("error 2\n", n) {
			t.Errorf("Run of %d empty lines: %q", n, got)
		}
	}
}

// P23.1: rules of an empty text, of one line, and of several, which are parted by a byte 10 alone.
func TestText(t *testing.T) {
	tells(t, "rules => ok")
	tells(t, "+  => ok", "rules => ok")
	tells(t, "+  => ok", "+  => ok", "+      => ok", "rules => ok")
	tells(t, "+ let a = 1; => ok", "rules => ok", "rules => ok")
	tells(t, "+ let => ok", "+ a => ok", "+ = => ok", "+ 1 => ok", "+ ; => ok", "rules => ok")
	tells(t, "+ # let => ok", "+ let a = 1; # a => ok", "+ let b = 1; => ok", "rules => ok")
	// No words are parted but by the byte 10 between lines, and it ends what # begins.
	tells(t, "+ let => ok", "+ a = 1; => ok", "rules => ok", "+ let a = 1 => ok", "+ 0; => ok", "rules => error 2 10", "+ # earn => ok", "+ b = base; => ok", "rules => error 2 7")
	// What stands behind the blank is the line, with all its blanks, and with what would be a line itself.
	tells(t, "+  let => ok", "rules => error 2 4", "+ let  => ok", "rules => error 2 4", "+ + 1 => ok", "rules => error 2 0", "+ rules => ok", "rules => error 2 0", "+  rules => ok", "rules => error 2 1")
	tells(t, "+ let a\t= 1; => ok", "rules => error 2 5", "+ let a = 1;\r => ok", "rules => error 2 10", "+ \xff => ok", "rules => error 2 0", "+ let a/ => ok", "rules => error 2 5")
}

// P23.1: each error of rules, with its place; and the text is empty behind.
func TestTextErrors(t *testing.T) {
	tells(t,
		"+ let => ok", "rules => error 2 3", "rules => ok",
		"+  => ok", "+ let => ok", "rules => error 2 4", "rules => ok",
		"+  => ok", "+  => ok", "+ let => ok", "+  => ok", "rules => error 2 6", "rules => ok",
		"+ let a = 1; => ok", "+ let b = 1.5; => ok", "rules => error 2 19", "rules => ok",
		"+ let a = 1; => ok", "+ let base = 1; => ok", "rules => error 6 1", "rules => ok",
		"+ let a = 1; => ok", "+ let a = 1; => ok", "rules => error 6 1",
		"+ let a = b; => ok", "rules => error 5 0",
		"+ let a = 1; => ok", "+ let b = 1; => ok", "+ let c = d; => ok", "rules => error 5 2",
		"+ let a = 1; => ok", "+ earn b = a; => ok", "rules => error 7 1",
		"+ let a = 1; => ok", "+ let b = b; => ok", "rules => error 8 1",
		"+ let a = ((((((((((((((((((((1)))))))))))))))))))); => ok", "rules => error 9 28",
		"rules => ok",
	)
	var many []string
	for i := range 60 {
		many = append(many, "+ let a"+strconv.Itoa(i)+" = 1; => ok")
	}
	tells(t, append(many[:60:60], "rules => ok", "rules => ok")...)
	tells(t, append(many[:60:60], "+ let => ok", "rules => error 9 770", "rules => ok")...)
	// Rules that were refused turn nothing of those that are there.
	tells(t, begun("hire 7 24276 3 1000.00 0.00 0 0 no => ok", "run 24276 => ok 1", "+ earn other = base => ok", "rules => error 2 17", "run 24277 => ok 1", "year 7 2023 => ok 2000.00 2000.00 200.00", "rules => ok", "run 24278 => ok 1", "year 7 2023 => ok 0.00 0.00 0.00")...)
}

// P23.1: a table and funds are empty behind scheme, whatever it told, and each other stays as it is.
func TestScheme(t *testing.T) {
	tells(t, "scheme 0.00 => error 1", "row 0.00 1000 => ok", "scheme 0.00 => ok", "scheme 0.00 => error 1")
	tells(t, "row 0.00 1000 => ok", "scheme -0.01 => error 1", "scheme 0.00 => error 1", "row 0.00 1000 => ok", "scheme 10995116277.77 => error 1", "scheme 0.00 => error 1", "row 0.00 1000 => ok", "scheme 10995116277.76 => ok")
	tells(t, "row 0.01 1000 => ok", "scheme 0.00 => error 1", "row 0.00 10001 => ok", "scheme 0.00 => error 1", "row 0.00 -1 => ok", "scheme 0.00 => error 1", "row 0.00 10000 => ok", "scheme 0.00 => ok", "row 0.00 0 => ok", "scheme 0.00 => ok")
	tells(t, "row 0.00 0 => ok", "row 0.00 0 => ok", "scheme 0.00 => error 1", "row 0.00 0 => ok", "row 0.01 0 => ok", "row 0.01 0 => ok", "scheme 0.00 => error 1", "row 0.00 0 => ok", "row 0.01 0 => ok", "row 92233720368547758.07 10000 => ok", "scheme 0.00 => ok")
	tells(t, "fund 1 1 1.00 => ok", "scheme 0.00 => error 1", "row 0.00 0 => ok", "fund 10001 0 0.00 => ok", "scheme 0.00 => error 1", "row 0.00 0 => ok", "fund 0 10001 0.00 => ok", "scheme 0.00 => error 1", "row 0.00 0 => ok", "fund 0 0 -0.01 => ok", "scheme 0.00 => error 1", "row 0.00 0 => ok", "fund 10000 10000 92233720368547758.07 => ok", "scheme 0.00 => ok")
	var rows, funds []string
	for i := range 12 {
		rows = append(rows, "row "+string("0123456789ab"[i])+".00 100 => ok")
	}
	rows[10], rows[11] = "row 10.00 100 => ok", "row 11.00 100 => ok"
	for range 6 {
		funds = append(funds, "fund 100 100 1.00 => ok")
	}
	tells(t, append(append(rows[:12:12], funds...), "scheme 0.00 => ok", "scheme 0.00 => error 1")...)
	tells(t, append(append(append(rows[:12:12], "row 12.00 100 => ok"), funds...), "scheme 0.00 => error 1", "row 0.00 5 => ok", "scheme 0.00 => ok")...)
	tells(t, append(append(append(rows[:12:12], "fund 100 100 1.00 => ok"), funds...), "scheme 0.00 => error 1", "row 0.00 5 => ok", "scheme 0.00 => ok")...)
	// Funds that are there, behind a table that was refused: none are.
	tells(t, begun("fund 500 500 9999.00 => ok", "scheme 1.00 => error 1", "row 0.00 1000 => ok", "scheme 0.00 => ok", "hire 7 24276 3 1000.00 0.00 0 0 no => ok", "run 24276 => ok 1", "account 2200 3 => ok 0.00", "account 2100 3 => ok -100.00")...)
	// A scheme that is refused turns nothing of the one that there is.
	tells(t, begun("row 0.00 5000 => ok", "row 0.00 5000 => ok", "scheme 0.00 => error 1", "hire 7 24276 3 1000.00 0.00 0 0 no => ok", "run 24276 => ok 1", "account 2200 3 => ok -120.00", "account 2100 3 => ok -100.00")...)
	// Rows and funds that come behind a scheme are the next one's.
	tells(t, begun("row 0.00 5000 => ok", "fund 500 700 1.00 => ok", "hire 7 24276 3 1000.00 0.00 0 0 no => ok", "run 24276 => ok 1", "account 2200 3 => ok -120.00", "account 2100 3 => ok -100.00", "scheme 0.00 => ok", "reverse => ok 1", "run 24276 => ok 1", "account 2200 3 => ok -0.12", "account 2100 3 => ok -500.00")...)
}

// P23.1: what is protected is so of creditors alone.
func TestProtected(t *testing.T) {
	for _, c := range [][2]string{{"0.00", "-1000.00"}, {"0.01", "-999.99"}, {"400.00", "-600.00"}, {"1000.00", "0.00"}, {"10995116277.76", "0.00"}} {
		tells(t, "+ earn pay = base; => ok", "rules => ok", "row 0.00 0 => ok", "scheme "+c[0]+" => ok", "hire 7 24276 3 1000.00 0.00 0 0 no => ok", "claim 7 40 1 5000.00 5000.00 => ok", "run 24276 => ok 1", "account 3040 3 => "+"ok "+c[1])
	}
}

// P23.1: each word of hire and change is what the table says, and no other one.
func TestPeople(t *testing.T) {
	head := []string{"+ earn a = base; => ok", "+ earn b = bonus; => ok", "+ pretax c = 1.00 * hours; => ok", "+ post d = 0.01 * days; => ok", "+ post e = if lead then 7.77 else 0.00; => ok", "rules => ok", "row 0.00 0 => ok", "scheme 0.00 => ok"}
	slip := func(words string) string {
		return words + " / taxable 59.23 / tax 0.00 / paid / owed / taken 7.83 0.00 / garnished / net 51.40 0.00"
	}
	tells(t, append(head[:8:8],
		"hire 9 24280 123 50.20 12.03 3 6 yes => ok",
		"run 24280 => ok 1",
		slip("slip 9 24280 => ok slip 9 24280 / line earn a 50.20 / line earn b 12.03 / line pretax c 3.00 / line post d 0.06 / line post e 7.77 / raw 62.23 3.00 7.83 / extra 0.00 0.00 0.00"),
		"account 4000 123 => ok 62.23", "account 4000 122 => ok 0.00", "account 4000 -1 => ok 62.23",
		"change 9 24281 45 50.01 6.00 5 6 no => ok",
		"run 24281 => ok 1",
		"slip 9 24281 => ok slip 9 24281 / line earn a 50.01 / line earn b 6.00 / line pretax c 5.00 / line post d 0.06 / line post e 0.00 / raw 56.01 5.00 0.06 / extra 0.00 0.00 0.00 / taxable 51.01 / tax 0.00 / paid / owed / taken 0.06 0.00 / garnished / net 50.95 0.00",
		"account 4000 123 => ok 62.23", "account 4000 45 => ok 56.01", "account 4000 -5 => ok 118.24",
		"leave 9 24282 => ok", "run 24282 => ok 0", "slip 9 24282 => error 5", "reverse => ok 0", "reverse => ok 1", "reverse => ok 1", "reverse => error 5",
	)...)
}

// P23.1: each word of claim is what the table says.
func TestClaims(t *testing.T) {
	tells(t, begun("hire 7 24276 3 200.00 0.00 0 0 no => ok",
		"claim 7 40 2 100.00 150.00 => ok", "claim 7 999 1 30.00 45.00 => ok", "claim 7 1 2 50.00 500.00 => ok",
		"run 24276 => ok 1",
		"slip 7 24276 => ok slip 7 24276 / line earn pay 200.00 / line post meal 10.00 / raw 200.00 0.00 10.00 / extra 0.00 0.00 0.00 / taxable 200.00 / tax 20.00 / paid 10.00 / owed 14.00 / taken 10.00 0.00 / garnished 86.67 30.00 43.33 / net 0.00 0.00",
		"bank 24276 => ok H24276 / C00000000010000000000004333 / C00000000400000000000008667 / C00000009990000000000003000 / T000300000000000000016000",
		"run 24277 => ok 1",
		"account 3040 3 => ok -150.00", "account 3999 3 => ok -45.00", "account 3001 3 => ok -93.33",
		"bank 24277 => ok H24277 / E00000000070000000000003167 / C00000000010000000000005000 / C00000000400000000000006333 / C00000009990000000000001500 / T000400000000000000016000",
	)...)
}

// P23.1: of each period its own slips and files; of two people one file.
func TestSlipsAndFiles(t *testing.T) {
	tells(t, "+ earn pay = base; => ok", "rules => ok", "row 0.00 1000 => ok", "scheme 0.00 => ok",
		"bank 24276 => ok H24276 / T000000000000000000000000", "bank 22800 => ok H22800 / T000000000000000000000000", "bank 35999 => ok H35999 / T000000000000000000000000",
		"slip 7 24276 => error 5",
		"hire 7 24276 3 100.00 0.00 0 0 no => ok", "hire 3 24276 4 200.00 0.00 0 0 no => ok", "hire 2147483647 24277 0 0.00 0.00 0 0 no => ok",
		"slip 7 24276 => error 5",
		"run 24276 => ok 2",
		"slip 7 24276 => ok slip 7 24276 / line earn pay 100.00 / raw 100.00 0.00 0.00 / extra 0.00 0.00 0.00 / taxable 100.00 / tax 10.00 / paid / owed / taken 0.00 0.00 / garnished / net 90.00 0.00",
		"slip 3 24276 => ok slip 3 24276 / line earn pay 200.00 / raw 200.00 0.00 0.00 / extra 0.00 0.00 0.00 / taxable 200.00 / tax 20.00 / paid / owed / taken 0.00 0.00 / garnished / net 180.00 0.00",
		"slip 2147483647 24276 => error 5", "slip 7 24277 => error 5", "slip 7 0 => error 5", "slip -7 24276 => error 5", "slip 24276 7 => error 5",
		"bank 24276 => ok H24276 / E00000000030000000000018000 / E00000000070000000000009000 / T000200000000000000027000",
		"bank 24277 => ok H24277 / T000000000000000000000000",
		// Less than was paid is short, and what is put right stands as an extra.
		"change 7 24276 3 10.00 0.00 0 0 no => ok", "change 3 24276 4 300.00 0.00 0 0 no => ok",
		"run 24277 => ok 3",
		"slip 7 24277 => ok slip 7 24277 / line earn pay 10.00 / raw 10.00 0.00 0.00 / extra -90.00 0.00 0.00 / taxable -80.00 / tax -8.00 / paid / owed / taken 0.00 0.00 / garnished / net 0.00 72.00",
		"slip 2147483647 24277 => ok slip 2147483647 24277 / line earn pay 0.00 / raw 0.00 0.00 0.00 / extra 0.00 0.00 0.00 / taxable 0.00 / tax 0.00 / paid / owed / taken 0.00 0.00 / garnished / net 0.00 0.00",
		"bank 24277 => ok H24277 / E00000000030000000000036000 / T000100000000000000036000",
		"year 7 2023 => ok 20.00 20.00 2.00", "year 3 2023 => ok 600.00 600.00 60.00",
		"account 1700 3 => ok 72.00", "account 4000 -1 => ok 620.00", "totals => ok 780.00 780.00",
		// What is taken back has neither a slip nor a payment; what was there stays.
		"reverse => ok 3", "slip 7 24277 => error 5", "bank 24277 => ok H24277 / T000000000000000000000000", "totals => ok 1260.00 1260.00", "account 1700 3 => ok 0.00", "year 7 2023 => ok 100.00 100.00 10.00",
		"bank 24276 => ok H24276 / E00000000030000000000018000 / E00000000070000000000009000 / T000200000000000000027000",
	)
}

// P23.1: pretax is off what is taxable, and not off the base of a year; years are told apart.
func TestYears(t *testing.T) {
	tells(t, "+ earn pay = base; => ok", "+ pretax plan = bonus; => ok", "rules => ok", "row 0.00 1000 => ok", "scheme 0.00 => ok",
		"year 7 2023 => ok 0.00 0.00 0.00", "hire 7 24287 3 100.00 20.00 0 0 no => ok", "hire 8 24287 3 7.00 9.00 0 0 no => ok", "run 24287 => ok 2",
		"year 7 2023 => ok 80.00 100.00 8.00", "year 8 2023 => ok -2.00 7.00 0.00", "year 7 2024 => ok 0.00 0.00 0.00", "year 7 2022 => ok 0.00 0.00 0.00",
		"run 24288 => ok 2", "year 7 2023 => ok 80.00 100.00 8.00", "year 7 2024 => ok 80.00 100.00 8.00",
		"year 2023 7 => ok 0.00 0.00 0.00", "year 9 2023 => ok 0.00 0.00 0.00", "year 0 0 => ok 0.00 0.00 0.00", "year -7 -2023 => ok 0.00 0.00 0.00", "year 7 24287 => ok 0.00 0.00 0.00", "year 999999999999999 -999999999999999 => ok 0.00 0.00 0.00",
	)
}

// whole is a year of two people and what comes ahead and behind, with each line of the table; it was reckoned by hand.
var whole = []string{
	"run 24276 => error 5",
	"+ # what is earned => ok",
	"+ let share = if lead then 10.00% else 5.00%; => ok",
	"+ earn pay = base; earn extra = bonus + 12.50 * hours; => ok",
	"+  => ok",
	"+ pretax plan = pay * share; => ok",
	"+ post meal = 4.00 * days; => ok",
	"rules => ok",
	"run 24276 => error 5",
	"row 0.00 1000 => ok",
	"row 6000.00 2000 => ok",
	"fund 500 700 5000.00 => ok",
	"fund 100 0 92233720368547758.07 => ok",
	"scheme 1000.00 => ok",
	"run 24276 => ok 0",
	"reverse => ok 0",
	"hire 7 24276 3 2000.00 100.00 8 20 no => ok",
	"hire 2 24277 4 5000.00 0.00 0 0 yes => ok",
	"claim 7 40 1 50.00 80.00 => ok",
	"claim 7 41 2 300.00 400.00 => ok",
	"claim 2 41 1 10000.00 10000.00 => ok",
	// 7: 2000 and 200; plan 100; tax a tenth of 2100; funds 5 and 1 of 100 of 2200; meal 80; 678 above what is protected.
	"run 24276 => ok 1",
	"slip 7 24276 => ok slip 7 24276 / line earn pay 2000.00 / line earn extra 200.00 / line pretax plan 100.00 / line post meal 80.00 / raw 2200.00 100.00 80.00 / extra 0.00 0.00 0.00 / taxable 2100.00 / tax 210.00 / paid 110.00 22.00 / owed 154.00 0.00 / taken 80.00 0.00 / garnished 50.00 300.00 / net 1328.00 0.00",
	"bank 24276 => ok H24276 / E00000000070000000000132800 / C00000000400000000000005000 / C00000000410000000000030000 / T000300000000000000167800",
	"year 7 2023 => ok 2100.00 2200.00 210.00",
	"totals => ok 2354.00 2354.00",
	// 7: as ahead, but of the creditors 30 and 100 are left; 2: 5000; plan 500; tax 450; funds 250 and 50; 3750 left, of which 2750 to 41.
	"run 24277 => ok 2",
	"slip 7 24277 => ok slip 7 24277 / line earn pay 2000.00 / line earn extra 200.00 / line pretax plan 100.00 / line post meal 80.00 / raw 2200.00 100.00 80.00 / extra 0.00 0.00 0.00 / taxable 2100.00 / tax 210.00 / paid 110.00 22.00 / owed 154.00 0.00 / taken 80.00 0.00 / garnished 30.00 100.00 / net 1548.00 0.00",
	"slip 2 24277 => ok slip 2 24277 / line earn pay 5000.00 / line earn extra 0.00 / line pretax plan 500.00 / line post meal 0.00 / raw 5000.00 500.00 0.00 / extra 0.00 0.00 0.00 / taxable 4500.00 / tax 450.00 / paid 250.00 50.00 / owed 350.00 0.00 / taken 0.00 0.00 / garnished 2750.00 / net 1000.00 0.00",
	"bank 24277 => ok H24277 / E00000000020000000000100000 / E00000000070000000000154800 / C00000000400000000000003000 / C00000000410000000000285000 / T000400000000000000542800",
	"reverse => ok 2",
	"slip 2 24277 => error 5",
	"year 2 2023 => ok 0.00 0.00 0.00",
	"year 7 2023 => ok 2100.00 2200.00 210.00",
	// January was 3000 for 7: 1000 more, and 50 of plan; so 3050 is taxable on top of 2100; what is above 5000 is not the first fund's.
	"change 7 24276 3 3000.00 100.00 8 20 no => ok",
	"change 7 24277 5 2000.00 0.00 0 0 no => ok",
	"run 24277 => ok 2",
	"slip 7 24277 => ok slip 7 24277 / line earn pay 2000.00 / line earn extra 0.00 / line pretax plan 100.00 / line post meal 0.00 / raw 2000.00 100.00 0.00 / extra 1000.00 50.00 0.00 / taxable 2850.00 / tax 285.00 / paid 140.00 30.00 / owed 196.00 0.00 / taken 0.00 0.00 / garnished 30.00 100.00 / net 2265.00 0.00",
	"year 7 2023 => ok 4950.00 5200.00 495.00",
	"account 4000 3 => ok 2200.00",
	"account 4000 5 => ok 3000.00",
	"account 4000 -1 => ok 10200.00",
	"account 2200 5 => ok -336.00",
	"account 2201 5 => ok -30.00",
	"account 3041 4 => ok -2750.00",
	"account 3041 -1 => ok -3150.00",
	"account 4100 3 => ok 154.00",
	"account 9 9 => ok 0.00",
	"leave 7 24278 => ok",
	"leave 2 24279 => ok",
	// 2: 4500 on top of 4500, of which 3000 above 6000: 750; the first fund is at its ceiling; 3700 left.
	"run 24278 => ok 1",
	"slip 2 24278 => ok slip 2 24278 / line earn pay 5000.00 / line earn extra 0.00 / line pretax plan 500.00 / line post meal 0.00 / raw 5000.00 500.00 0.00 / extra 0.00 0.00 0.00 / taxable 4500.00 / tax 750.00 / paid 0.00 50.00 / owed 0.00 0.00 / taken 0.00 0.00 / garnished 2700.00 / net 1000.00 0.00",
	"slip 7 24278 => error 5",
	"bank 24278 => ok H24278 / E00000000020000000000100000 / C00000000410000000000270000 / T000200000000000000370000",
	"year 2 2023 => ok 9000.00 10000.00 1200.00",
	"close 2022 => ok",
	"reverse => ok 1",
	"run 24278 => ok 1",
	"close 2023 => ok",
	"reverse => error 10",
	"run 24287 => error 10",
	"close 2023 => error 10",
	"run 24288 => ok 0",
	"reverse => ok 0",
	"reverse => error 10",
	"year 2 2024 => ok 0.00 0.00 0.00",
}

// P23.1, P23.2: that year.
func TestWholeYear(t *testing.T) {
	tells(t, whole...)
}

// The same, and its debits and credits: they are the same behind each line.
func TestWholeYearTotals(t *testing.T) {
	var script strings.Builder
	for _, l := range whole {
		line, _, _ := strings.Cut(l, " => ")
		script.WriteString(line + "\ntotals\n")
	}
	lines := strings.Split(strings.TrimSuffix(holdRun(t, script.String()), "\n"), "\n")
	last := ""
	for i := 1; i < len(lines); i += 2 {
		words := strings.Split(lines[i], " ")
		if len(words) != 3 || words[0] != "ok" || words[1] != words[2] {
			t.Errorf("behind line %d: %q", i/2, lines[i])
		}
		last = words[1]
	}
	if last == "0.00" {
		t.Error("there is nothing in the journal")
	}
}
