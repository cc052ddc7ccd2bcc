// Package chars is layer 1: see shared/doc/01-chars.md.
package chars

import (
	"strconv"
	"strings"

	"fugue/api"
)

const (
	escape   = '\''
	nothing  = "_" // the print of the empty text: no other print has this byte
	digits   = "0123456789abcdef"
	alphabet = "abcdefghijklmnopqrstuvwxyz"
)

// Lower tells whether a text is a name of a value, or of a type's variable.
func Lower(s string) bool { return named(s, small) }

// Upper tells whether a text is a name of a constructor, a type, a class.
func Upper(s string) bool { return named(s, capital) }

// Place is the line and the column of a byte, from 1 on.
func Place(src string, at int) (int, int) {
	ahead := src[:min(max(at, 0), len(src))]
	line := 1 + strings.Count(ahead, "\n")
	// Where no line ends ahead, the last one's end is told as -1: the column counts from there, too.
	return line, len(ahead) - strings.LastIndexByte(ahead, '\n')
}

// Print is a text in print: of one line, without blanks.
func Print(s string) string {
	if s == "" {
		return nothing
	}
	out := make([]byte, 0, len(s))
	for i := range len(s) {
		if b := s[i]; plain(rune(b)) {
			out = append(out, b)
		} else {
			out = append(out, escape, digits[b>>4], digits[b&15])
		}
	}
	return string(out)
}

// Scan is the text of a print.
func Scan(s string) (string, api.Errno) {
	if s == nothing {
		return "", api.OK
	}
	if s == "" {
		return "", api.ErrSyntax
	}
	out := make([]byte, 0, len(s))
	for i := 0; i < len(s); {
		b, size := scanByte(s[i:])
		if size == 0 {
			return "", api.ErrSyntax
		}
		out = append(out, b)
		i += size
	}
	return string(out), api.OK
}

// Letters is the name of a number: a to z, a1 to z1, and so on.
func Letters(n int) string {
	if n < 0 {
		return "" // names are told from 0 on; below, a letter's place would be none
	}
	i, round := n%len(alphabet), n/len(alphabet)
	letter := alphabet[i : i+1]
	if round == 0 {
		return letter
	}
	return letter + strconv.Itoa(round)
}

// named tells whether a text is a name whose first sign is such a one.
func named(s string, first func(r rune) bool) bool {
	if s == "" || len(s) > api.MaxName {
		return false
	}
	// Bytes that are no UTF-8 come as the rune 0xfffd, which is no sign either.
	sign := func(i int, r rune) bool {
		if i == 0 {
			return first(r)
		}
		return plain(r) || r == '\'' || r == '_'
	}
	for i, r := range s {
		if !sign(i, r) {
			return false
		}
	}
	return true
}

// scanByte is the byte with whose print s begins, and that print's length; 0: s begins with none.
func scanByte(s string) (byte, int) {
	if plain(rune(s[0])) {
		return s[0], 1
	}
	if s[0] != escape || len(s) < 3 {
		return 0, 0
	}
	high, low := strings.IndexByte(digits, s[1]), strings.IndexByte(digits, s[2])
	if high < 0 || low < 0 {
		return 0, 0
	}
	b := byte(high<<4 | low)
	if plain(rune(b)) { // it is printed as it is, and one text has one print
		return 0, 0
	}
	return b, 3
}

// plain tells whether a sign is printed as it is.
func plain(r rune) bool { return small(r) || capital(r) || '0' <= r && r <= '9' }

func small(r rune) bool { return 'a' <= r && r <= 'z' }

func capital(r rune) bool { return 'A' <= r && r <= 'Z' }
