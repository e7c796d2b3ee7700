package desk

import (
	"strconv"
	"strings"

	"paymaster/api"
	"paymaster/master"
	"paymaster/money"
	"paymaster/value"
)

// farthest is how far from 0 a number may be: it has at most 15 digits.
const farthest = 999_999_999_999_999

// reader reads a word; it is false of one that is not of its kind.
type reader func(word string) (int, bool)

// read reads the words of a line behind its first one; it is false of a line that is none.
func read(words []string) ([]int, bool) {
	readers, ok := readersOf(words[0])
	if !ok || len(words)-1 != len(readers) {
		return nil, false
	}
	n := make([]int, len(readers))
	for i, one := range readers {
		if n[i], ok = one(words[i+1]); !ok {
			return nil, false
		}
	}
	return n, true
}

// readersOf are those of the words that stand behind a line's first one; it is false, if no line has that first one.
func readersOf(word string) ([]reader, bool) {
	switch word {
	case "rules", "reverse", "totals":
		return nil, true
	case "run", "close", "bank":
		return []reader{readNumber}, true
	case "scheme":
		return []reader{readAmount}, true
	case "leave", "slip", "year", "account":
		return []reader{readNumber, readNumber}, true
	case "row":
		return []reader{readAmount, readNumber}, true
	case "fund":
		return []reader{readNumber, readNumber, readAmount}, true
	case "claim":
		return []reader{readNumber, readNumber, readNumber, readAmount, readAmount}, true
	case "hire", "change":
		return []reader{readNumber, readNumber, readNumber, readAmount, readAmount, readNumber, readNumber, readLead}, true
	}
	return nil, false
}

func readNumber(word string) (int, bool) {
	n, err := strconv.Atoi(word)
	// Held against its own text, as Atoi takes noughts and + ahead of it, and - ahead of 0, too.
	if err != nil || number(n) != word || n < -farthest || n > farthest {
		return 0, false
	}
	return n, true
}

func readAmount(word string) (int, bool) {
	return money.Parse(word)
}

// readLead reads yes as 1, and no as 0.
func readLead(word string) (int, bool) {
	switch word {
	case "yes":
		return 1, true
	case "no":
		return 0, true
	}
	return 0, false
}

// recordOf is the record of what is read behind an id.
func recordOf(n []int) master.Record {
	in := value.Inputs{Base: n[2], Bonus: n[3], Hours: n[4], Days: n[5], Lead: n[6] == 1}
	return master.Record{From: n[0], Centre: n[1], In: in}
}

// orderOf is the order of what is read behind an id.
func orderOf(n []int) api.Order {
	return api.Order{Creditor: n[0], Priority: n[1], Claim: n[2], Balance: n[3]}
}

func number(n int) string {
	return strconv.Itoa(n)
}

// told is what a line tells: ok, or the error, and the words behind.
func told(e api.Errno, words ...string) string {
	first := "ok"
	if e != api.OK {
		first = "error " + number(int(e))
	}
	return strings.Join(append([]string{first}, words...), " ")
}

func toldCount(many int, e api.Errno) string {
	if e != api.OK {
		return told(e)
	}
	return told(api.OK, number(many))
}

func toldAmounts(l ...int) string {
	var words []string
	for _, n := range l {
		text, e := money.Text(n)
		if e != api.OK {
			return told(e)
		}
		words = append(words, text)
	}
	return told(api.OK, words...)
}

// toldLines tells a text as one line.
func toldLines(text string, e api.Errno) string {
	if e != api.OK {
		return told(e)
	}
	return told(api.OK, strings.ReplaceAll(strings.TrimSuffix(text, "\n"), "\n", " / "))
}
