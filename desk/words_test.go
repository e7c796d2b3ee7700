package desk_test

import (
	"strings"
	"testing"

	"paymaster/desk"
)

// Words that are numbers, amounts, yes and no, and such as are none.

var (
	rightNumbers = []string{
		"0", "1", "9", "10", "-1", "-5", "-10", "7000", "100000000000000", "-100000000000000", "999999999999999", "-999999999999999", "123456789012345", "-987654321098765",
	}
	wrongNumbers = []string{
		"", "-", "--", "-0", "00", "-00", "01", "-01", "007", "000000000000000", "000000000000001", "0000000000000000", "+0", "+1", "++1", "+-1", "-+1", "--1", "1-", "1+", "5-5",
		"1000000000000000", "-1000000000000000", "9999999999999999", "1234567890123456", "-1234567890123456", "9223372036854775807", "-9223372036854775808", "9223372036854775808", "18446744073709551617", "99999999999999999999", "100000000000000000000000000000000000000000",
		"1.0", "1.00", "0.00", "1.", ".1", "1,000", "1_000", "1_0", "1e3", "1E3", "0x10", "0X1", "0b1", "0o7", "0_0", "x", "a", "NaN", "inf", "nan", "one", "nil", "yes", "no", "%", "10%", "#", "1#", "'1'", "\"1\"", "1/", "/", "\t", "1\t", "\t1", "1\r", "1\x00", "\x00", "٣", "３", "1٣", "\xff", "1\xff", "−1", "½", "²",
	}
	rightAmounts = []string{
		"0.00", "0.01", "0.10", "1.00", "-0.01", "-0.99", "-1.00", "9.99", "10.00", "123456789.01", "92233720368547758.07", "-92233720368547758.07", "92233720368547758.06", "10000000000000000.00", "99999999999999.99",
	}
	wrongAmounts = []string{
		"", "-", ".", "-.", ".0", ".00", "-.00", ".01", "0", "1", "-1", "5", "100", "0.", "1.", "0.0", "1.0", "1.5", "0.000", "1.000", "1.234", "-0.00", "-0.0", "00.00", "01.00", "-01.00", "000.01", "+0.00", "+1.00", "--1.00", "-+1.00", "1.00-", "1.-1", "1.+1", "1.0x", "1.x0", "x.00", "0x1.00", "1e1.00", "1.1e", "1_0.00", "1.0_", "1,00", "1.00.00", "1..00", "1:00", "1.00%", "10.00%", "%", "$1.00", "1,000.00", "1'000.00",
		"92233720368547758.08", "-92233720368547758.08", "92233720368547758.09", "92233720368547760.00", "184467440737095516.16", "184467440737095516.17", "100000000000000000.00", "999999999999999999999.99", "-999999999999999999999.99",
		"NaN", "inf", "yes", "no", "x", "\t", "1.00\t", "\t1.00", "1.00\r", "1.00\x00", "1\x00.00", "٣.00", "1.٠٠", "1.００", "1。00", "\xff", "1.0\xff", "−1.00",
	}
	rightLeads = []string{"yes", "no"}
	wrongLeads = []string{
		"", "y", "n", "Yes", "No", "YES", "NO", "yEs", "nO", "ye", "yess", "noo", "yesno", "yes/no", "yes.", "no.", "0", "1", "-1", "0.00", "1.00", "true", "false", "on", "off", "ja", "nein", "maybe", "not", "\tyes", "yes\t", "yes\r", "no\x00", "\x00", "уеs", "ｎｏ", "\xff",
	}
)

// all are the words that are right, and those that are wrong, where a form has that letter.
func all(kind string) (right, wrong []string) {
	return map[string][]string{"n": rightNumbers, "a": rightAmounts, "y": rightLeads}[kind], map[string][]string{"n": wrongNumbers, "a": wrongAmounts, "y": wrongLeads}[kind]
}

// usual is a word that is right for that letter.
func usual(kind string) string {
	return map[string]string{"n": "24276", "a": "1.00", "y": "no"}[kind]
}

// isLine checks whether a line is one, by what it tells where there is nothing else.
func isLine(t *testing.T, line string, is bool) {
	t.Helper()
	got := desk.Run(line)
	if (got != "error 2\n") != is || strings.Count(got, "\n") != 1 {
		t.Errorf("%q told %q", line, got)
	}
	if want := exactRun(line); got != want {
		t.Errorf("%q told %q, not %q", line, got, want)
	}
}

// P23.1: each word of each line: all that are right, and those that are wrong. (No other error 2 comes of any of these lines.)
func TestEachWord(t *testing.T) {
	for _, form := range forms {
		letters := strings.Fields(form)
		for at := 1; at < len(letters); at++ {
			right, wrong := all(letters[at])
			words := strings.Fields(form)
			for i := 1; i < len(letters); i++ {
				words[i] = usual(letters[i])
			}
			for _, words[at] = range right {
				isLine(t, strings.Join(words, " "), true)
			}
			for _, words[at] = range wrong {
				isLine(t, strings.Join(words, " "), false)
			}
		}
	}
}

// P23.1: numbers of 15 digits and 16, 0 and -0, noughts ahead, -5: where they can be seen.
func TestNumbers(t *testing.T) {
	tells(t, "+ earn pay = base; => ok", "rules => ok", "row 0.00 1000 => ok", "row 1.00 999999999999999 => ok", "scheme 0.00 => error 1", "row 0.00 0 => ok", "scheme 0.00 => ok",
		"run 0 => error 1", "run -0 => error 2", "run -5 => error 1", "run 024276 => error 2", "run 22799 => error 1", "run 36000 => error 1", "run 999999999999999 => error 1", "run 1000000000000000 => error 2", "run -999999999999999 => error 1", "run -1000000000000000 => error 2",
		"run 24276 => ok 0", "run 35999 => ok 0", "reverse => ok 0", "reverse => ok 0", "run 22800 => ok 0", "reverse => ok 0",
		"hire 0 24276 0 0.00 0.00 0 0 no => error 1", "hire -5 24276 0 0.00 0.00 0 0 no => error 1", "hire 2147483648 24276 0 0.00 0.00 0 0 no => error 1", "hire 2147483647 24276 0 0.00 0.00 0 0 no => ok", "hire 1 24276 999 0.00 0.00 0 0 no => ok",
		"hire 5 24276 0 0.00 0.00 1099511627777 0 no => error 1", "hire 5 24276 0 0.00 0.00 0 1099511627777 no => error 1", "hire 5 24276 0 0.00 0.00 1099511627776 1099511627776 no => ok",
		"hire 6 24276 0 0.00 0.00 -1 0 no => error 1", "hire 6 24276 0 0.00 0.00 0 -5 no => error 1", "hire 6 24276 -1 0.00 0.00 0 0 no => error 1", "hire 6 24276 1000 0.00 0.00 0 0 no => error 1", "hire 6 22799 0 0.00 0.00 0 0 no => error 1", "hire 6 36000 0 0.00 0.00 0 0 no => error 1",
		"close -5 => error 1", "close 1899 => error 1", "close 3000 => error 1", "close 02022 => error 2", "close 2022 => ok",
		"account -5 -5 => ok 0.00", "account 0 0 => ok 0.00", "account 999999999999999 999999999999999 => ok 0.00",
		"bank 0 => error 1", "bank -5 => error 1", "bank 24276 => ok H24276 / T000000000000000000000000", "bank 024276 => error 2",
	)
}

// P23.1: amounts at their limits, where they can be seen.
func TestAmounts(t *testing.T) {
	tells(t, "+ earn pay = base; => ok", "+ earn extra = bonus; => ok", "rules => ok", "row 0.00 0 => ok", "row 92233720368547758.07 10000 => ok", "fund 10000 0 92233720368547758.07 => ok", "scheme 10995116277.76 => ok",
		"hire 7 24276 3 -0.01 0.00 0 0 no => error 1", "hire 7 24276 3 0.00 -0.01 0 0 no => error 1", "hire 7 24276 3 10995116277.77 0.00 0 0 no => error 1", "hire 7 24276 3 0.00 10995116277.77 0 0 no => error 1", "hire 7 24276 3 92233720368547758.07 0.00 0 0 no => error 1", "hire 7 24276 3 92233720368547758.08 0.00 0 0 no => error 2", "hire 7 24276 3 -0.00 0.00 0 0 no => error 2",
		"hire 7 24276 3 10995116277.76 10995116277.75 0 0 yes => ok",
		"claim 7 1 1 0.00 0.01 => error 1", "claim 7 1 1 0.01 0.00 => error 1", "claim 7 1 1 -0.01 0.01 => error 1", "claim 7 1 1 10995116277.77 0.01 => error 1", "claim 7 1 1 0.01 10995116277.77 => error 1", "claim 7 1 1 10995116277.76 10995116277.76 => ok", "claim 7 2 1 0.01 0.01 => ok",
		"run 24276 => ok 1",
		"slip 7 24276 => ok slip 7 24276 / line earn pay 10995116277.76 / line earn extra 10995116277.75 / raw 21990232555.51 0.00 0.00 / extra 0.00 0.00 0.00 / taxable 21990232555.51 / tax 0.00 / paid 21990232555.51 / owed 0.00 / taken 0.00 0.00 / garnished 0.00 0.00 / net 0.00 0.00",
		"totals => ok 21990232555.51 21990232555.51",
		"row 0.00 0 => ok", "scheme 0.00 => ok", "run 24277 => ok 1",
		"bank 24277 => ok H24277 / E00000000070001099511627774 / C00000000010001099511627776 / C00000000020000000000000001 / T000300000002199023255551",
		"year 7 2023 => ok 43980465111.02 43980465111.02 0.00",
	)
}

// P23.1: yes and no.
func TestLeads(t *testing.T) {
	tells(t, "+ earn pay = if lead then 2.00 else 1.00; => ok", "rules => ok", "row 0.00 0 => ok", "scheme 0.00 => ok",
		"hire 7 24276 3 0.00 0.00 0 0 yes => ok", "hire 8 24276 4 0.00 0.00 0 0 no => ok", "hire 9 24276 5 0.00 0.00 0 0 maybe => error 2", "run 24276 => ok 2", "account 4000 3 => ok 2.00", "account 4000 4 => ok 1.00",
		"change 7 24277 3 0.00 0.00 0 0 no => ok", "change 8 24277 4 0.00 0.00 0 0 yes => ok", "change 8 24277 4 0.00 0.00 0 0 NO => error 2", "run 24277 => ok 2", "account 4000 3 => ok 3.00", "account 4000 4 => ok 3.00")
}
