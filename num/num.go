// Package num is layer 1: numbers that don't go over. See shared/doc/01-num.md.
package num

import (
	"math/bits"
	"strconv"
	"strings"

	"checkroll/api"
)

// maxText is the most bytes that Parse looks at. Each number's text fits, and
// longer ones are told apart ahead of their form.
const maxText = 20

// Right tells whether n is a number.
func Right(n int64) bool { return -api.MaxNum <= n && n <= api.MaxNum }

// Add two numbers.
func Add(a, b int64) (int64, bool) {
	if !Right(a) || !Right(b) {
		return 0, false
	}
	// Of two numbers only 2^62 twice leaves int64: it wraps round to -2^63,
	// which is no number either.
	return within(a + b)
}

// Mul two numbers.
func Mul(a, b int64) (int64, bool) {
	if !Right(a) || !Right(b) {
		return 0, false
	}
	high, low := bits.Mul64(size(a), size(b))
	if high != 0 || low > uint64(api.MaxNum) {
		return 0, false
	}
	if (a < 0) != (b < 0) {
		return -int64(low), true
	}
	return int64(low), true
}

// Sum of all. It is held in 128 bits, for what stands between may go beyond
// though the whole does not.
func Sum(l []int64) (int64, bool) {
	var high, low uint64
	for _, n := range l {
		if !Right(n) {
			return 0, false
		}
		var carry uint64
		low, carry = bits.Add64(low, uint64(n), 0)
		high, _ = bits.Add64(high, signs(n), carry)
	}
	whole := int64(low)
	if high != signs(whole) {
		return 0, false
	}
	return within(whole)
}

// Show a number.
func Show(n int64) string {
	if !Right(n) {
		return ""
	}
	return strconv.FormatInt(n, 10)
}

// Parse a number: what is read must show as it was.
func Parse(text string) (int64, api.Errno) {
	if len(text) > maxText {
		return 0, api.ErrLong
	}
	if !formed(text) {
		return 0, api.ErrForm
	}
	n, err := strconv.ParseInt(text, 10, 64)
	// What is formed so can only be refused for being beyond int64.
	if err != nil || !Right(n) {
		return 0, api.ErrOver
	}
	return n, api.OK
}

// within tells n and true, if it is a number, else 0 and false.
func within(n int64) (int64, bool) {
	if !Right(n) {
		return 0, false
	}
	return n, true
}

// size of a number without its sign.
func size(n int64) uint64 {
	if n < 0 {
		return uint64(-n)
	}
	return uint64(n)
}

// signs are the upper 64 bits of n in 128.
func signs(n int64) uint64 { return uint64(n >> 63) }

// formed tells whether text has the form of a number's text, however great.
func formed(text string) bool {
	digits := strings.TrimPrefix(text, "-")
	if digits == "" {
		return false
	}
	if digits[0] == '0' && text != "0" {
		return false
	}
	for i := range len(digits) {
		if digits[i] < '0' || digits[i] > '9' {
			return false
		}
	}
	return true
}
