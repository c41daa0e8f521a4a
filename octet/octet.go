// Package octet: texts byte by byte. Its chapter: shared/doc/01-octet.md.
package octet

import (
	"math"
	"strings"
)

// Lower returns s with the letters A to Z made small; all other bytes stay.
func Lower(s string) string {
	b := []byte(s)
	for i, c := range b {
		b[i] = lowerByte(c)
	}
	return string(b)
}

// Fold tells whether a and b are equal but for the case of letters.
func Fold(a, b string) bool {
	if len(a) != len(b) {
		return false
	}
	for i := range len(a) {
		if lowerByte(a[i]) != lowerByte(b[i]) {
			return false
		}
	}
	return true
}

// Token tells whether s is one or more bytes of those that names are made of.
func Token(s string) bool {
	for i := range len(s) {
		if !isTokenByte(s[i]) {
			return false
		}
	}
	return s != ""
}

// Trim returns s without the white space at its two ends.
func Trim(s string) string {
	start, end := 0, len(s)
	for start < end && isSpace(s[start]) {
		start++
	}
	for start < end && isSpace(s[end-1]) {
		end--
	}
	return s[start:end]
}

// Split returns the trimmed parts between the commas of s, without the empty ones.
func Split(s string) []string {
	var parts []string
	for more := true; more; {
		var part string
		part, s, more = strings.Cut(s, ",")
		if part = Trim(part); part != "" {
			parts = append(parts, part)
		}
	}
	return parts
}

// Join returns its arguments with a comma and a space between each two.
func Join(l ...string) string {
	return strings.Join(l, ", ")
}

// Digits returns the number that the digits s denote, at most 2^64 - 1, or
// false if s is anything but digits.
func Digits(s string) (uint64, bool) {
	if s == "" {
		return 0, false
	}
	var n uint64
	for i := range len(s) {
		if !isDigit(s[i]) {
			return 0, false
		}
		n = appendDigit(n, uint64(s[i]-'0'))
	}
	return n, true
}

// appendDigit stays at the greatest number once that is passed, so that the
// digits that follow can still be checked without wrapping round.
func appendDigit(n, digit uint64) uint64 {
	if n > (math.MaxUint64-digit)/10 {
		return math.MaxUint64
	}
	return n*10 + digit
}

func lowerByte(c byte) byte {
	if c >= 'A' && c <= 'Z' {
		return c + ('a' - 'A')
	}
	return c
}

func isSpace(c byte) bool {
	return c == '\t' || c == '\n' || c == '\r' || c == ' '
}

func isDigit(c byte) bool {
	return c >= '0' && c <= '9'
}

func isLetter(c byte) bool {
	c = lowerByte(c)
	return c >= 'a' && c <= 'z'
}

func isTokenByte(c byte) bool {
	switch c {
	case '!', '#', '$', '%', '&', '\'', '*', '+', '-', '.', '^', '_', '`', '|', '~':
		return true
	}
	return isLetter(c) || isDigit(c)
}
