package notation

import (
	"strings"

	"proctor/api"
)

const (
	hexMark    = '#'
	hexDigits  = "0123456789abcdef"
	mostDigits = 15
)

// Word writes bytes as a word.
func Word(s string) string {
	if plain(s) {
		return strings.Clone(s)
	}
	b := make([]byte, 0, 1+2*len(s))
	b = append(b, hexMark)
	for i := range len(s) {
		b = append(b, hexDigits[s[i]>>4], hexDigits[s[i]&15])
	}
	return string(b)
}

// Unword reads a word.
func Unword(w string) (string, api.Errno) {
	if plain(w) {
		// A piece of a greater text would keep all of that text in memory.
		return strings.Clone(w), api.OK
	}
	if w == "" || w[0] != hexMark {
		return "", api.ErrText
	}
	s, ok := unhex(w[1:])
	if !ok || plain(s) {
		return "", api.ErrText
	}
	return s, api.OK
}

// plain tells whether s stands as a word as it is. A byte that begins no rune
// comes as one that is neither a letter nor a digit.
func plain(s string) bool {
	for _, r := range s {
		if !plainRune(r) {
			return false
		}
	}
	return s != ""
}

func plainRune(r rune) bool {
	return 'a' <= r && r <= 'z' || '0' <= r && r <= '9'
}

func unhex(digits string) (string, bool) {
	if len(digits)%2 != 0 {
		return "", false
	}
	b := make([]byte, 0, len(digits)/2)
	for i := 0; i < len(digits); i += 2 {
		high := strings.IndexByte(hexDigits, digits[i])
		low := strings.IndexByte(hexDigits, digits[i+1])
		if high < 0 || low < 0 {
			return "", false
		}
		b = append(b, byte(high<<4|low))
	}
	return string(b), true
}

// Number reads a number.
func Number(w string) (int, api.Errno) {
	if len(w) == 0 || len(w) > mostDigits || digitsAhead(w) < len(w) {
		return 0, api.ErrText
	}
	if w[0] == '0' && len(w) > 1 {
		return 0, api.ErrText
	}
	n := 0
	for i := range len(w) {
		n = 10*n + int(w[i]-'0')
	}
	return n, api.OK
}

// digitsAhead is how many digits stand ahead of the first byte that is none.
func digitsAhead(s string) int {
	n := 0
	for n < len(s) && '0' <= s[n] && s[n] <= '9' {
		n++
	}
	return n
}
