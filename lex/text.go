package lex

import (
	"math"
	"strings"

	"skua/api"
)

// keywords is the names that may not be given.
var keywords = []string{
	"bool", "u8", "u16", "u32", "u64", "i8", "i16", "i32", "i64", "void",
	"if", "else", "while", "return", "assert", "assume", "nondet", "true", "false",
}

// Keyword is whether a name may not be given.
func Keyword(s string) bool {
	for _, word := range keywords {
		if word == s {
			return true
		}
	}
	return false
}

// Number is the number of digits; false: it is none, or too great.
func Number(s string) (uint64, bool) {
	base := uint64(10)
	digits, hex := strings.CutPrefix(s, "0x")
	if hex {
		base = 16
	}
	if digits == "" {
		return 0, false
	}
	num := uint64(0)
	for i := range len(digits) {
		d := digit(digits[i])
		// Asked ahead of the product, as that would wrap round.
		if d >= base || num > (math.MaxUint64-d)/base {
			return 0, false
		}
		num = num*base + d
	}
	return num, true
}

// Show is tokens as a text.
func Show(l []api.Token) string {
	var text strings.Builder
	for i, t := range l {
		if t.Kind == endKind {
			continue
		}
		if i > 0 {
			text.WriteByte(' ')
		}
		text.WriteString(t.Text)
	}
	return text.String()
}

// digit is what a digit stands for, decimal or hexadecimal; 16, which is above all of them, of any other byte.
func digit(b byte) uint64 {
	switch {
	case '0' <= b && b <= '9':
		return uint64(b - '0')
	case 'a' <= b && b <= 'f':
		return uint64(b-'a') + 10
	case 'A' <= b && b <= 'F':
		return uint64(b-'A') + 10
	}
	return 16
}

// letter is whether a name may begin with a byte.
func letter(b byte) bool {
	return 'a' <= b && b <= 'z' || 'A' <= b && b <= 'Z' || b == '_'
}
