// Package money is layer 1: see shared/doc/01-money.md.
package money

import (
	"strconv"
	"strings"

	"paymaster/api"
)

// Right: is it an amount?
func Right(n int) bool {
	return n >= -api.Most
}

// Add: the sum.
func Add(a int, b int) (int, api.Errno) {
	if !Right(a) || !Right(b) {
		return 0, api.ErrOver
	}
	// Held against the room that is left, as the sum itself might wrap round.
	if b > 0 && a > api.Most-b || b < 0 && a < -api.Most-b {
		return 0, api.ErrOver
	}
	return a + b, api.OK
}

// Neg: taken off 0.
func Neg(a int) (int, api.Errno) {
	if !Right(a) {
		return 0, api.ErrOver
	}
	return -a, api.OK
}

// Sub: the difference.
func Sub(a int, b int) (int, api.Errno) {
	less, e := Neg(b)
	if e != api.OK {
		return 0, e
	}
	return Add(a, less)
}

// Sum: of all.
func Sum(l []int) (int, api.Errno) {
	sum := 0
	for _, n := range l {
		next, e := Add(sum, n)
		if e != api.OK {
			return 0, e
		}
		sum = next
	}
	return sum, api.OK
}

// Text: of an amount.
func Text(n int) (string, api.Errno) {
	if !Right(n) {
		return "", api.ErrOver
	}
	sign := ""
	if n < 0 {
		sign = "-"
		n = -n
	}
	return sign + strconv.Itoa(n/100) + "." + twoDigits(n%100), api.OK
}

func twoDigits(n int) string {
	if n < 10 {
		return "0" + strconv.Itoa(n)
	}
	return strconv.Itoa(n)
}

// Parse: the amount of a text.
func Parse(s string) (int, bool) {
	size, below := strings.CutPrefix(s, "-")
	dot := len(size) - 3
	if dot < 1 || size[dot] != '.' {
		return 0, false
	}
	if dot > 1 && size[0] == '0' {
		return 0, false
	}
	n, ok := appendDigits(0, size[:dot])
	if !ok {
		return 0, false
	}
	n, ok = appendDigits(n, size[dot+1:])
	if !ok {
		return 0, false
	}
	if !below {
		return n, true
	}
	// Nought has one text alone, and that has no sign.
	if n == 0 {
		return 0, false
	}
	return -n, true
}

// appendDigits writes the digits of s behind those of n; false, if one is no digit or the number is above Most.
func appendDigits(n int, s string) (int, bool) {
	for i := range len(s) {
		c := s[i]
		if c < '0' || c > '9' {
			return 0, false
		}
		digit := int(c - '0')
		if n > (api.Most-digit)/10 {
			return 0, false
		}
		n = n*10 + digit
	}
	return n, true
}
