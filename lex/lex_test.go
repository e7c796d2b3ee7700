package lex_test

import (
	"math/big"
	"regexp"
	"slices"
	"strings"
	"testing"
	"unsafe"

	"paymaster/api"
	"paymaster/lex"
)

// The forms of tokens, held against what All answers; signs and numbers are told here by other means than there.
var (
	wordForm    = regexp.MustCompile(`^[a-z][a-z0-9]*`)
	runForm     = regexp.MustCompile(`^[0-9][0-9.%]*`)
	signForm    = regexp.MustCompile(`^(<=|>=|<>|[=<>+*(),;-])`)
	betweenForm = regexp.MustCompile(`^( |\n|#[^\n]*)`)
	wholeForm   = regexp.MustCompile(`^(0|[1-9][0-9]{0,8})$`)
	amountForm  = regexp.MustCompile(`^(0|[1-9][0-9]*)\.([0-9]{2})$`)
	percentForm = regexp.MustCompile(`^(0|[1-9][0-9]*)\.([0-9]{2})%$`)
)

// upTo: is the number that form finds in run, its dot left out, at most that one?
func upTo(form *regexp.Regexp, run string, most int64) bool {
	parts := form.FindStringSubmatch(run)
	if parts == nil {
		return false
	}
	n, ok := new(big.Int).SetString(parts[1]+parts[2], 10)
	return ok && n.Cmp(big.NewInt(most)) <= 0
}

// runKind is that of a run of digits, dots and %; 0, if it is no token.
func runKind(run string) int {
	switch {
	case wholeForm.MatchString(run):
		return lex.Whole
	case upTo(amountForm, run, 1<<63-1):
		return lex.Amount
	case upTo(percentForm, run, 10000):
		return lex.Percent
	}
	return 0
}

// exact is the answer that P7.1 asks for.
func exact(s string) ([]lex.Token, int, api.Errno) {
	var l []lex.Token
	for at := 0; at < len(s); {
		if skip := betweenForm.FindString(s[at:]); skip != "" {
			at += len(skip)
			continue
		}
		k := lex.Token{At: at}
		if k.Text = wordForm.FindString(s[at:]); k.Text != "" {
			if len(k.Text) <= 12 {
				k.Kind = lex.Word
			}
		} else if k.Text = runForm.FindString(s[at:]); k.Text != "" {
			k.Kind = runKind(k.Text)
		} else if k.Text = signForm.FindString(s[at:]); k.Text != "" {
			k.Kind = lex.Sign
		}
		if k.Kind == 0 {
			return nil, at, api.ErrForm
		}
		l = append(l, k)
		at += len(k.Text)
	}
	return l, 0, api.OK
}

// check holds All of s against exact, and answers the tokens.
func check(t *testing.T, s string) []lex.Token {
	t.Helper()
	want, wantPlace, wantErr := exact(s)
	got, place, e := lex.All(s)
	if !slices.Equal(got, want) || place != wantPlace || e != wantErr {
		t.Fatalf("All(%.200q) = %v, %d, %d; want %v, %d, %d", s, got, place, e, want, wantPlace, wantErr)
	}
	return got
}

func checkTokens(t *testing.T, s string, want ...lex.Token) {
	t.Helper()
	if got, place, e := lex.All(s); !slices.Equal(got, want) || place != 0 || e != api.OK {
		t.Errorf("All(%q) = %v, %d, %d; want %v", s, got, place, e, want)
	}
}

func checkFault(t *testing.T, s string, want int) {
	t.Helper()
	if got, place, e := lex.All(s); len(got) != 0 || place != want || e != api.ErrForm {
		t.Errorf("All(%.200q) = %v, %d, %d; want none, %d, %d", s, got, place, e, want, api.ErrForm)
	}
}

// everyText calls back with all texts of at most that many of those pieces.
func everyText(pieces []string, most int, back func(s string)) {
	var more func(s string, left int)
	more = func(s string, left int) {
		back(s)
		if left == 0 {
			return
		}
		for _, p := range pieces {
			more(s+p, left-1)
		}
	}
	more("", most)
}

// P7.1: rules with blanks, bytes 10 and comments between, and with nothing between where nothing is needed.
func TestRules(t *testing.T) {
	checkTokens(t, "earn a = 1.50;",
		lex.Token{Kind: lex.Word, Text: "earn", At: 0},
		lex.Token{Kind: lex.Word, Text: "a", At: 5},
		lex.Token{Kind: lex.Sign, Text: "=", At: 7},
		lex.Token{Kind: lex.Amount, Text: "1.50", At: 9},
		lex.Token{Kind: lex.Sign, Text: ";", At: 13})
	checkTokens(t, "earn a=1.50;",
		lex.Token{Kind: lex.Word, Text: "earn", At: 0},
		lex.Token{Kind: lex.Word, Text: "a", At: 5},
		lex.Token{Kind: lex.Sign, Text: "=", At: 6},
		lex.Token{Kind: lex.Amount, Text: "1.50", At: 7},
		lex.Token{Kind: lex.Sign, Text: ";", At: 11})
	checkTokens(t, "  # what\n\npost x2=min(base*12.50%,30)-a; # 5% of it\n",
		lex.Token{Kind: lex.Word, Text: "post", At: 10},
		lex.Token{Kind: lex.Word, Text: "x2", At: 15},
		lex.Token{Kind: lex.Sign, Text: "=", At: 17},
		lex.Token{Kind: lex.Word, Text: "min", At: 18},
		lex.Token{Kind: lex.Sign, Text: "(", At: 21},
		lex.Token{Kind: lex.Word, Text: "base", At: 22},
		lex.Token{Kind: lex.Sign, Text: "*", At: 26},
		lex.Token{Kind: lex.Percent, Text: "12.50%", At: 27},
		lex.Token{Kind: lex.Sign, Text: ",", At: 33},
		lex.Token{Kind: lex.Whole, Text: "30", At: 34},
		lex.Token{Kind: lex.Sign, Text: ")", At: 36},
		lex.Token{Kind: lex.Sign, Text: "-", At: 37},
		lex.Token{Kind: lex.Word, Text: "a", At: 38},
		lex.Token{Kind: lex.Sign, Text: ";", At: 39})
	checkTokens(t, "if a>=2#x\nthen\n-1 else+0.05#",
		lex.Token{Kind: lex.Word, Text: "if", At: 0},
		lex.Token{Kind: lex.Word, Text: "a", At: 3},
		lex.Token{Kind: lex.Sign, Text: ">=", At: 4},
		lex.Token{Kind: lex.Whole, Text: "2", At: 6},
		lex.Token{Kind: lex.Word, Text: "then", At: 10},
		lex.Token{Kind: lex.Sign, Text: "-", At: 15},
		lex.Token{Kind: lex.Whole, Text: "1", At: 16},
		lex.Token{Kind: lex.Word, Text: "else", At: 18},
		lex.Token{Kind: lex.Sign, Text: "+", At: 22},
		lex.Token{Kind: lex.Amount, Text: "0.05", At: 23})
}

// P7.1: texts in which no token stands have none, and no fault.
func TestNoTokens(t *testing.T) {
	for _, s := range []string{"", " ", "   ", "\n", "\n\n\n", " \n \n", "#", "# all of it", "#\n", "# a\n", "##", "#\n#", " # a\n # b\n ", "#A?\t\r\x00\x80\xff", "# 01 1.5 abcdefghijklm\n", "# ä € 😀"} {
		checkTokens(t, s)
	}
}

// P7.1: a comment begins anywhere between tokens, ends with the next byte 10, and leaves that one out.
func TestComments(t *testing.T) {
	a := lex.Token{Kind: lex.Word, Text: "a", At: 0}
	checkTokens(t, "a#", a)
	checkTokens(t, "a#b", a)
	checkTokens(t, "a # b = 1; # c", a)
	checkTokens(t, "a#b\n", a)
	for _, c := range []struct {
		s  string
		at int
	}{
		{"#\nb", 2}, {"# a\nb", 4}, {"##\nb", 3}, {"# #\nb", 4}, {"#\n#\nb", 4}, {"#\n\n b", 4},
		{"# a \r\nb", 6}, {"#A\nb", 3}, {"#\x00\xff\t\nb", 5}, {"#?!\"'$&./:@[]^_`{|}~\nb", 21}, {"#1.5 01\nb", 8}, {"#ä\nb", 4},
	} {
		checkTokens(t, c.s, lex.Token{Kind: lex.Word, Text: "b", At: c.at})
	}
	// What is one token with nothing between is two with a comment between.
	checkTokens(t, "<#\n=", lex.Token{Kind: lex.Sign, Text: "<", At: 0}, lex.Token{Kind: lex.Sign, Text: "=", At: 3})
	checkTokens(t, "1#\n2", lex.Token{Kind: lex.Whole, Text: "1", At: 0}, lex.Token{Kind: lex.Whole, Text: "2", At: 3})
	checkFault(t, "# a\n?", 4)
	checkFault(t, "?# a\n", 0)
	checkFault(t, "#\r\r\n\r", 4)
	// Inside a comment every byte but 10 belongs to it.
	for c := range 256 {
		if c != '\n' {
			checkTokens(t, "a#"+string([]byte{byte(c)}), a)
			checkTokens(t, "a# "+string([]byte{byte(c)})+" b\n;", a, lex.Token{Kind: lex.Sign, Text: ";", At: 7})
		}
	}
}

// P7.1: words, with digits behind the first letter, of 1, 12 and 13 bytes.
func TestWords(t *testing.T) {
	for _, s := range []string{"a", "z", "m", "aa", "az", "a0", "a9", "z09", "a1b2c3", "if", "earn", "pretax", "min", "x00", "e1", "abcdefghijkl", "nopqrstuvwxy", "zzzzzzzzzzzz", "a12345678901", "a00000000000"} {
		word := lex.Token{Kind: lex.Word, Text: s, At: 0}
		checkTokens(t, s, word)
		checkTokens(t, s+" ", word)
		checkTokens(t, s+";", word, lex.Token{Kind: lex.Sign, Text: ";", At: len(s)})
		word.At = 2
		checkTokens(t, "\n "+s+"\n", word)
	}
	for _, s := range []string{"abcdefghijklm", "aaaaaaaaaaaaaaaaaaaaaaaa", "a123456789012", "abcdefghijkl0", "abcdefghijkla b", strings.Repeat("z", 300)} {
		checkFault(t, s, 0)
		checkFault(t, "a = "+s+";", 4)
		checkFault(t, "12"+s, 2)
	}
	for many := 1; many <= 300; many++ {
		check(t, strings.Repeat("x", many))
		check(t, "x"+strings.Repeat("7", many))
	}
	checkTokens(t, "abcdefghijkl mnopqrstuvwx",
		lex.Token{Kind: lex.Word, Text: "abcdefghijkl", At: 0},
		lex.Token{Kind: lex.Word, Text: "mnopqrstuvwx", At: 13})
	// A dot or a % is none of a word's.
	checkFault(t, "a.50", 1)
	checkFault(t, "a5%", 2)
}

// P7.1: runs that are whole numbers, amounts and rates; a letter or a sign ends a run.
func TestNumbers(t *testing.T) {
	for _, c := range []struct {
		s    string
		kind int
	}{
		{"0", lex.Whole}, {"1", lex.Whole}, {"9", lex.Whole}, {"10", lex.Whole}, {"100", lex.Whole}, {"12345678", lex.Whole}, {"123456789", lex.Whole}, {"100000000", lex.Whole}, {"999999999", lex.Whole},
		{"0.00", lex.Amount}, {"0.01", lex.Amount}, {"0.50", lex.Amount}, {"1.50", lex.Amount}, {"10.00", lex.Amount}, {"123456789.00", lex.Amount}, {"1234567890.00", lex.Amount}, {"92233720368547758.06", lex.Amount}, {"92233720368547758.07", lex.Amount},
		{"0.00%", lex.Percent}, {"0.05%", lex.Percent}, {"1.50%", lex.Percent}, {"12.50%", lex.Percent}, {"99.99%", lex.Percent}, {"100.00%", lex.Percent},
	} {
		number := lex.Token{Kind: c.kind, Text: c.s, At: 0}
		checkTokens(t, c.s, number)
		checkTokens(t, c.s+"\n", number)
		checkTokens(t, c.s+"#", number)
		checkTokens(t, c.s+"a", number, lex.Token{Kind: lex.Word, Text: "a", At: len(c.s)})
		checkTokens(t, c.s+"*"+c.s, number, lex.Token{Kind: lex.Sign, Text: "*", At: len(c.s)}, lex.Token{Kind: c.kind, Text: c.s, At: len(c.s) + 1})
		number.At = 1
		checkTokens(t, "-"+c.s, lex.Token{Kind: lex.Sign, Text: "-", At: 0}, number)
	}
	checkTokens(t, "1a2 0x", lex.Token{Kind: lex.Whole, Text: "1", At: 0}, lex.Token{Kind: lex.Word, Text: "a2", At: 1},
		lex.Token{Kind: lex.Whole, Text: "0", At: 4}, lex.Token{Kind: lex.Word, Text: "x", At: 5})
}

// P7.1: runs that are none of the three, the whole run being asked.
func TestNoNumbers(t *testing.T) {
	for _, s := range []string{
		"1234567890", "1000000000", "9999999999", "2147483648", "9223372036854775807", "9223372036854775808", "18446744073709551616",
		"00", "01", "09", "000", "007", "000000000", "0123456789", "012345678",
		"1.", "1.5", "1.500", "0.", "0.0", "0.000", "1..50", "1.5.0", "1.50.", "1.50.00", "1.00.00", "10.0", "1.2.3", "01.50", "00.00", "00.50", "007.00",
		"92233720368547758.08", "92233720368547759.00", "99999999999999999.99", "184467440737095516.17", "1000000000000000000.00",
		"1%", "0%", "5%", "50%", "100%", "1.%", "1.5%", "12.5%", "1.500%", "1.50%%", "1.50%.", "1.50%0", "1.50%1.50%", "1.50%1", "1%.50", "1.5%0", "01.50%", "00.00%", "012.50%", "100.01%", "100.10%", "101.00%", "1000.00%", "92233720368547758.07%", "92233720368547758.08%", "655.36%",
	} {
		checkFault(t, s, 0)
		checkFault(t, s+" ", 0)
		checkFault(t, s+";", 0)
		checkFault(t, s+"a", 0)
		checkFault(t, "a="+s+";", 2)
		checkFault(t, "1.50-"+s, 5)
	}
	for many := 1; many <= 60; many++ {
		for _, c := range "0123456789.%" {
			check(t, "1"+strings.Repeat(string(c), many))
			check(t, "1"+strings.Repeat(string(c), many)+".00")
			check(t, "1"+strings.Repeat(string(c), many)+".00%")
		}
	}
}

// P7.1: all short runs of digits, dots and %.
func TestShortRuns(t *testing.T) {
	everyText([]string{"0", "1", "9", ".", "%"}, 6, func(s string) { check(t, "1"+s) })
	everyText([]string{"0", "1", "9", ".", "%"}, 6, func(s string) { check(t, "0"+s) })
	everyText([]string{"0", "5", ".", "%"}, 5, func(s string) { check(t, s) })
}

// P7.1: signs, the longer one first.
func TestSigns(t *testing.T) {
	for _, s := range []string{"<=", ">=", "<>", "=", "<", ">", "+", "-", "*", "(", ")", ",", ";"} {
		checkTokens(t, s, lex.Token{Kind: lex.Sign, Text: s, At: 0})
		checkTokens(t, " "+s+" ", lex.Token{Kind: lex.Sign, Text: s, At: 1})
		checkTokens(t, "a"+s+"1", lex.Token{Kind: lex.Word, Text: "a", At: 0}, lex.Token{Kind: lex.Sign, Text: s, At: 1}, lex.Token{Kind: lex.Whole, Text: "1", At: 1 + len(s)})
	}
	for s, want := range map[string][]string{
		"< =": {"<", "="}, "<\n=": {"<", "="}, "> =": {">", "="}, "< >": {"<", ">"},
		"=<": {"=", "<"}, "=>": {"=", ">"}, "><": {">", "<"}, "==": {"=", "="}, "<<": {"<", "<"}, ">>": {">", ">"},
		"<=>": {"<=", ">"}, "<>=": {"<>", "="}, ">=<": {">=", "<"}, "<<=": {"<", "<="}, "<<>": {"<", "<>"}, ">>=": {">", ">="}, "><=": {">", "<="}, "><>": {">", "<>"},
		"<==": {"<=", "="}, "<=<=": {"<=", "<="}, "<>>=": {"<>", ">="}, "<=>=": {"<=", ">="}, "===": {"=", "=", "="}, "<>=<>": {"<>", "=", "<>"},
		"--": {"-", "-"}, "+-*": {"+", "-", "*"}, "();,": {"(", ")", ";", ","}, "**": {"*", "*"}, "-=": {"-", "="}, "<-": {"<", "-"}, "=;": {"=", ";"},
	} {
		texts := []string{}
		for _, k := range check(t, s) {
			texts = append(texts, k.Text)
		}
		if !slices.Equal(texts, want) {
			t.Errorf("All(%q): %q; want %q", s, texts, want)
		}
	}
	everyText([]string{"<", ">", "=", "-", " "}, 6, func(s string) { check(t, s) })
}

// noTokenBytes are those of which no token begins and that stand not between tokens.
func noTokenBytes() []byte {
	l := []byte{}
	for c := range 256 {
		if !strings.ContainsRune("abcdefghijklmnopqrstuvwxyz0123456789=<>+-*(),; \n#", rune(c)) {
			l = append(l, byte(c))
		}
	}
	return l
}

// P7.1: bytes of which no token begins, at the beginning, in the midst and at the end.
func TestWrongBytes(t *testing.T) {
	bytes := noTokenBytes()
	if len(bytes) != 256-26-10-10-3 {
		t.Fatalf("%d bytes", len(bytes))
	}
	for _, c := range bytes {
		s := string([]byte{c})
		checkFault(t, s, 0)
		checkFault(t, s+s, 0)
		checkFault(t, s+"a = 1;", 0)
		checkFault(t, s+" a", 0)
		checkFault(t, " "+s, 1)
		checkFault(t, "\n\n"+s+"\n", 2)
		checkFault(t, "#"+s+"\n"+s, 3)
		checkFault(t, "ab"+s, 2)
		checkFault(t, "ab"+s+"cd", 2)
		checkFault(t, "a = "+s+" 1;", 4)
		checkFault(t, "a <="+s, 4)
		checkFault(t, "<"+s+"=", 1)
		checkFault(t, "earn a = 1.50;"+s, 14)
		checkFault(t, "earn a = 1.50; "+s, 15)
		if c != '.' && c != '%' {
			checkFault(t, "12"+s, 2)
			checkFault(t, "1.50"+s+"%", 4)
			checkFault(t, "12.50%"+s, 6)
		}
	}
}

// P7.1: letters are those from a to z alone, inside a word, too.
func TestLetters(t *testing.T) {
	for _, c := range []struct {
		s  string
		at int
	}{
		{"A", 0}, {"Z", 0}, {"Earn a", 0}, {"eArn", 1}, {"earN", 3}, {"earn A = 1;", 5}, {"aB1", 1}, {"a_b", 1}, {"_a", 0}, {"a-B", 2}, {"1A", 1}, {"1.00E", 4},
		{"é", 0}, {"aé", 1}, {"caf\u00e9 = 1", 3}, {"ａ", 0}, {"１", 0}, {"a１", 1}, {"٣", 0}, {"≤", 0}, {"a ≤ b", 2}, {"−1", 0}, {"\u00a0a", 0}, {"a\u00a0", 1}, {"a\u2028b", 1}, {"\ufeffa", 0}, {"\ufffd", 0}, {"a\xffb", 1},
		{"a\tb", 1}, {"a\r\nb", 1}, {"a;\r\n", 2}, {"a\x00", 1}, {"\x00", 0}, {"a\vb", 1}, {"a\fb", 1}, {"a\x7f", 1},
	} {
		checkFault(t, c.s, c.at)
	}
}

// P7.1: the first fault is told, whatever stands behind it, and none of the tokens ahead of it.
func TestFirstFault(t *testing.T) {
	for _, c := range []struct {
		s  string
		at int
	}{
		{"a ? ? ?", 2}, {"01 ?", 0}, {"? 01", 0}, {"a 1.5 B", 2}, {"a B 1.5", 2}, {"abcdefghijklm 01", 0}, {"a abcdefghijklm", 2}, {"1 2 3 04 5", 6}, {"1 2 3 4 05?", 8},
		{"a.b", 1}, {".5", 0}, {".50", 0}, {"%", 0}, {"a %", 2}, {"1 .", 2}, {"1 %", 2}, {"1.50 %", 5}, {"a = 1.5;", 4}, {"a!=1", 1}, {"a/2", 1}, {"a:1", 1}, {"\"a\"", 0}, {"'a'", 0}, {"{a}", 0}, {"[1]", 0}, {"a&b", 1}, {"$1", 0}, {"a;~", 2},
	} {
		checkFault(t, c.s, c.at)
		check(t, c.s)
	}
}

// P7.1: all texts of at most four of these pieces.
func TestShortTexts(t *testing.T) {
	pieces := []string{"a", "z9", "abcdefghijkl", "0", "1", "123456789", ".", "50", "%", "<", "=", ">", "-", ";", " ", "\n", "#", "A", "\x00", "\xff"}
	everyText(pieces, 4, func(s string) { check(t, s) })
}

// P7.1: all texts of one byte, and of two.
func TestEveryPairOfBytes(t *testing.T) {
	for a := range 256 {
		check(t, string([]byte{byte(a)}))
		for b := range 256 {
			check(t, string([]byte{byte(a), byte(b)}))
		}
	}
}

// P7.1: long texts end, and have all their tokens.
func TestLongTexts(t *testing.T) {
	many := 1 << 18
	for _, c := range []struct {
		s      string
		tokens int
	}{
		{strings.Repeat(" ", many), 0},
		{strings.Repeat("\n", many), 0},
		{strings.Repeat("#\n", many), 0},
		{"#" + strings.Repeat("?", many), 0},
		{strings.Repeat("(", many), many},
		{strings.Repeat("<", many), many},
		{strings.Repeat("<=", many), many},
		{strings.Repeat("a ", many), many},
		{strings.Repeat("earn a = 1.50; # it\n", many), 5 * many},
	} {
		if got, place, e := lex.All(c.s); len(got) != c.tokens || place != 0 || e != api.OK {
			t.Errorf("All(%.20q ..): %d tokens, %d, %d; want %d", c.s, len(got), place, e, c.tokens)
		}
		checkFault(t, c.s+"\n?", len(c.s)+1)
	}
	for _, c := range "az09.%" {
		checkFault(t, "1 "+strings.Repeat(string(c), many), 2)
		checkFault(t, "1 0"+strings.Repeat("0", many)+string(c), 2)
	}
}

// right are texts without a fault, of tokens of all kinds.
func right() []string {
	l := []string{"", " ", "#", "earn a = 1.50;", "let x=if a<=2 then 3.00*12.50% else -b; # end", "1a2b3c", "0x 0.00x 0.00%x", "a<>b<=>", "<<>>==<=>=<>", "((((1))))", "min(max(0,999999999),92233720368547758.07)", "a#b\nc#d", "abcdefghijkl123456789 ", "\n\n a \n\n b #\n\n", "100.00%0.00"}
	everyText([]string{"a", "b1", "7", "0.05", "9.00%", "<", "=", ">", " ", "#\n"}, 4, func(s string) {
		if _, _, e := exact(s); e == api.OK {
			l = append(l, s)
		}
	})
	return l
}

// joined: the texts of tokens, each with what is between them ahead of it, and that at the end, too.
func joined(l []lex.Token, between string) string {
	s := ""
	for _, k := range l {
		s += between + k.Text
	}
	return s + between
}

func checkSame(t *testing.T, from, s string, want []lex.Token) {
	t.Helper()
	got, place, e := lex.All(s)
	if len(got) != len(want) || place != 0 || e != api.OK {
		t.Fatalf("All(%q), of %q: %v, %d, %d; want %v", s, from, got, place, e, want)
	}
	for i, k := range got {
		if k.Kind != want[i].Kind || k.Text != want[i].Text || s[k.At:k.At+len(k.Text)] != k.Text {
			t.Fatalf("All(%q), of %q: %v; want %v", s, from, k, want[i])
		}
	}
}

// P7.2: tokens, one blank apart, are the tokens; more blanks, bytes 10 and comments between turn nothing but places.
func TestTokensApart(t *testing.T) {
	for _, s := range right() {
		l := check(t, s)
		at := 0
		apart := []lex.Token{}
		for _, k := range l {
			apart = append(apart, lex.Token{Kind: k.Kind, Text: k.Text, At: at})
			at += len(k.Text) + 1
		}
		one := strings.TrimSuffix(strings.TrimPrefix(joined(l, " "), " "), " ")
		if got := check(t, one); !slices.Equal(got, apart) {
			t.Fatalf("All(%q), of %q: %v; want %v", one, s, got, apart)
		}
		for _, between := range []string{" ", "  ", "     ", "\n", " \n ", "#\n", " # a 1.5 ?\n "} {
			checkSame(t, s, joined(l, between), l)
		}
	}
}

// P7.2: blanks added where one token ends and another begins turn nothing but the places of those behind.
func TestBlanksBetween(t *testing.T) {
	for _, s := range right() {
		l := check(t, s)
		for i, k := range l {
			for _, blanks := range []string{" ", "   "} {
				want := slices.Clone(l)
				for j := i; j < len(want); j++ {
					want[j].At += len(blanks)
				}
				wider := s[:k.At] + blanks + s[k.At:]
				if got, place, e := lex.All(wider); !slices.Equal(got, want) || place != 0 || e != api.OK {
					t.Fatalf("All(%q) = %v, %d, %d; want %v", wider, got, place, e, want)
				}
			}
		}
	}
}

// R1, R4: an answer is new memory, and the same text has the same answer again.
func TestNewMemory(t *testing.T) {
	s := "earn abc = 123 * 12.50% + 1.50; # end"
	begin := uintptr(unsafe.Pointer(unsafe.StringData(s)))
	first, _, _ := lex.All(s)
	for i, k := range first {
		if p := uintptr(unsafe.Pointer(unsafe.StringData(k.Text))); p >= begin && p < begin+uintptr(len(s)) {
			t.Errorf("token %d, %q, is a piece of what was handed in", i, k.Text)
		}
	}
	kept := slices.Clone(first)
	clear(first)
	if again, place, e := lex.All(s); !slices.Equal(again, kept) || place != 0 || e != api.OK {
		t.Errorf("All(%q) = %v, %d, %d; was %v", s, again, place, e, kept)
	}
	if s != "earn abc = 123 * 12.50% + 1.50; # end" {
		t.Errorf("what was handed in is %q now", s)
	}
}
