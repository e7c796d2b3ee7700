package bank_test

import (
	"fmt"
	"strings"
	"testing"

	"paymaster/api"
	"paymaster/bank"
)

// Texts that are no file's: by hand, and all that are one step away from such as are.

// isNoText checks that there is no file of a text.
func isNoText(t *testing.T, text string) {
	t.Helper()
	if f, e := holdRead(t, text); !isNothing(f) || e != api.ErrForm {
		t.Errorf("Read(%.1000q): %v, %d", text, f, e)
	}
}

// bases are texts of files.
func bases(t *testing.T) []string {
	t.Helper()
	var l []string
	for _, f := range []bank.File{of(), of(pay('E', 7, 120)), of(pay('C', 7, 120)), of(pay('E', 7, 120), pay('E', 12, 5), pay('C', 3, most), pay('C', highest, 88)), of(many(12, 11, 1000)...)} {
		s, e := bank.Write(f)
		if e != api.OK {
			t.Fatalf("Write: %d", e)
		}
		l = append(l, s)
	}
	return l
}

// P22.1: texts that are written by hand.
func TestReadWrong(t *testing.T) {
	none, one := "H24276\nT000000000000000000000000\n", "H24276\nE00000000070000000000000120\nT000100000000000000000120\n"
	for _, s := range []string{none, one} {
		if _, e := holdRead(t, s); e != api.OK {
			t.Errorf("Read(%q): %d", s, e)
		}
	}
	for _, s := range []string{
		"", "\n", "H", "H24276", "H24276\n", "T000000000000000000000000\n", "H24276\n\n", "H24276T000000000000000000000000\n", "24276\n000000000000000000000000\n",
		"H2427\nT000000000000000000000000\n", "H024276\nT000000000000000000000000\n", "H+2427\nT000000000000000000000000\n", "H-2427\nT000000000000000000000000\n", "h24276\nT000000000000000000000000\n", "H24276\nt000000000000000000000000\n", "H24276 \nT000000000000000000000000\n", " H24276\nT000000000000000000000000\n", "H 24276\nT000000000000000000000000\n",
		"H22799\nT000000000000000000000000\n", "H36000\nT000000000000000000000000\n", "H00000\nT000000000000000000000000\n", "H99999\nT000000000000000000000000\n", "H02023\nT000000000000000000000000\n", "H2_276\nT000000000000000000000000\n", "H0x5ed\nT000000000000000000000000\n", "H٢٤\nT000000000000000000000000\n", "H24e00\nT000000000000000000000000\n",
		"H24276\nT\n", "H24276\nT0\n", "H24276\nT00000000000000000000000\n", "H24276\nT0000000000000000000000000\n", "H24276\nT0000\n", "H24276\nT00000\n", "H24276\nT0000 00000000000000000000\n", "H24276\nT000-00000000000000000000\n", "H24276\nT+00000000000000000000000\n", "H24276\nT0000-0000000000000000000\n",
		"H24276\nT000100000000000000000000\n", "H24276\nT000000000000000000000001\n", "H24276\nT999900000000000000000000\n", "H24276\nT000010000000000000000000\n",
		none + none, none + one, one + none, none + "\n", "\n" + none, none + " ", none + "\x00", "\ufeff" + none, strings.ReplaceAll(none, "\n", "\r\n"), strings.ReplaceAll(none, "\n", "/"), strings.TrimSuffix(none, "\n"), strings.TrimSuffix(none, "\n") + "\r",
	} {
		isNoText(t, s)
	}
	for _, line := range []string{
		"", "E", "E00000000070000000000000000", "E00000000000000000000000120", "D00000000070000000000000120", "e00000000070000000000000120", "H00000000070000000000000120", "T00000000070000000000000120", "000000000070000000000000120",
		"E7 120", "E7", "E000000000700000000000001200", "E0000000007000000000000120", "E0000000070000000000000120", "E 0000000070000000000000120", "E0000000007 000000000000120", "E+0000000070000000000000120", "E-0000000070000000000000120", "E0000000007+000000000000120", "E0000000007-000000000000120", "E00000000070000000000001.20", "E00000000070000000000000_120",
		"E21474836480000000000000120", "E99999999990000000000000120", "E42949673030000000000000120", "E00000000079999999999999999", "E00000000071125899906842625", " E00000000070000000000000120", "E00000000070000000000000120 ", "E00000000070000000000000120\r", "E0x000000070000000000000120", "E00000000071e00000000000000", "E00000000070000000000000٦",
	} {
		isNoText(t, strings.Replace(one, "E00000000070000000000000120", line, 1))
		isNoText(t, strings.Replace(one, "E00000000070000000000000120\n", line+"\n\n", 1))
		isNoText(t, strings.Replace(one, "E00000000070000000000000120\n", line, 1))
	}
	// An Amount of nothing, and one that is too much, with their own sums.
	isNoText(t, "H24276\nE00000000070000000000000000\nT000100000000000000000000\n")
	isNoText(t, "H24276\nC00000000071125899906842625\nT000100001125899906842625\n")
	isNoText(t, "H24276\nC00000000079999999999999999\nT000100009999999999999999\n")
	isNoText(t, "H24276\nE00000000000000000000000120\nT000100000000000000000120\n")
	isNoText(t, "H24276\nE21474836480000000000000120\nT000100000000000000000120\n")
}

// P22.1: payments in another order, and two of one Kind and Number, with the right last line.
func TestReadWrongOrders(t *testing.T) {
	e7, e8, c1, c7 := "E00000000070000000000000120\n", "E00000000080000000000000120\n", "C00000000010000000000000120\n", "C00000000070000000000000120\n"
	last := "T000200000000000000000240\n"
	for _, two := range []string{e7 + e8, e7 + c1, e7 + c7, e8 + c7, c1 + c7} {
		if f, e := holdRead(t, "H24276\n"+two+last); e != api.OK || len(f.Payments) != 2 {
			t.Errorf("Read of %q: %v, %d", two, f, e)
		}
		isNoText(t, two+"H24276\n"+last)
		isNoText(t, "H24276\n"+last+two)
		isNoText(t, last+two+"H24276\n")
	}
	for _, two := range []string{e8 + e7, c1 + e7, c7 + e7, c7 + e8, c7 + c1, e7 + e7, c7 + c7, c1 + c1} {
		isNoText(t, "H24276\n"+two+last)
	}
}

// P22.1: a number of payments, and a sum, that are not theirs; also such as would be, if they wrapped round.
func TestReadWrongLast(t *testing.T) {
	base := "H24276\nE00000000070000000000000120\nC00000000071000000000000005\n"
	right := fmt.Sprintf("T%04d%020d\n", 2, 1000000000000125)
	if _, e := holdRead(t, base+right); e != api.OK {
		t.Fatalf("Read: %d", e)
	}
	for many := range 10000 {
		if many != 2 {
			isNoText(t, base+fmt.Sprintf("T%04d%020d\n", many, 1000000000000125))
		}
	}
	for _, sum := range []string{"00000000000000000000", "00000000000000000120", "00001000000000000005", "00001000000000000124", "00001000000000000126", "10001000000000000125", "01000000000000000125", "18447744073709551741", "09224372036854775933", "99999999999999999999", "00001000000000000215", "00010000000000001250", "00000100000000000012"} {
		isNoText(t, base+"T0002"+sum+"\n")
	}
	crowded, e := bank.Write(of(many(4000, 999, most)...))
	if e != api.OK {
		t.Fatalf("Write: %d", e)
	}
	head := strings.TrimSuffix(crowded, "05628373634306277376\n")
	for _, sum := range []string{"05628373634306277375", "05628373634306277377", "00000000000000000000", "24075117708015828992"} {
		isNoText(t, head+sum+"\n")
	}
}

// P22.1: a line that is left out, that stands twice, or in another one's place.
func TestReadWrongLines(t *testing.T) {
	for _, base := range bases(t) {
		lines := strings.SplitAfter(strings.TrimSuffix(base, "\n"), "\n")
		lines[len(lines)-1] += "\n"
		for i := range lines {
			isNoText(t, strings.Join(lines[:i], "")+strings.Join(lines[i+1:], ""))
			isNoText(t, strings.Join(lines[:i+1], "")+strings.Join(lines[i:], ""))
			isNoText(t, strings.Join(lines[:i], ""))
			if i > 0 {
				isNoText(t, strings.Join(lines[i:], "")+strings.Join(lines[:i], ""))
			}
			for j := range i {
				other := append([]string(nil), lines...)
				other[i], other[j] = other[j], other[i]
				isNoText(t, strings.Join(other, ""))
			}
		}
	}
}

// P22.1: each byte left off, turned into another one, and one added, wherever it is; all beginnings and all ends. Few of them are files' texts: such as have another period, or a Kind or Number that is in order.
func TestReadOneByteAway(t *testing.T) {
	right := 0
	for at, base := range bases(t) {
		for i := range len(base) + 1 {
			for c := range 256 {
				if at == 4 && c >= 128 { // of the long one, to be quick
					break
				}
				isNoText(t, base[:i]+string([]byte{byte(c)})+base[i:])
				if i < len(base) && byte(c) != base[i] {
					if _, e := holdRead(t, base[:i]+string([]byte{byte(c)})+base[i+1:]); e == api.OK {
						right++
					}
				}
			}
			if i < len(base) {
				isNoText(t, base[:i]+base[i+1:])
				isNoText(t, base[:i])
				if i > 0 {
					isNoText(t, base[i:])
				}
			}
		}
	}
	if right < 200 {
		t.Errorf("only %d of the texts were files'", right)
	}
}

// P22.1: two bytes that change places, and two digits that are turned so that the sum stays.
func TestReadTurned(t *testing.T) {
	for _, base := range bases(t) {
		for i := range len(base) - 1 {
			turned := []byte(base)
			turned[i], turned[i+1] = turned[i+1], turned[i]
			holdRead(t, string(turned))
			turned = []byte(base)
			turned[i], turned[i+1] = turned[i]+1, turned[i+1]-10
			holdRead(t, string(turned))
		}
	}
}
