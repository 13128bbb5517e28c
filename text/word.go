package text

import "strings"

// signs are the letters that are neither of the alphabet nor digits.
const signs = "!?*+-/<=>_."

func digit(c byte) bool {
	return '0' <= c && c <= '9'
}

func letter(c byte) bool {
	return 'a' <= c && c <= 'z' || digit(c) || strings.IndexByte(signs, c) >= 0
}

// wordAhead is the word that s begins with: empty, if it begins with no letter.
func wordAhead(s string) string {
	n := 0
	for n < len(s) && letter(s[n]) {
		n++
	}
	return s[:n]
}

func looksLikeNumber(word string) bool {
	digits := strings.TrimPrefix(word, "-")
	for i := range len(digits) {
		if !digit(digits[i]) {
			return false
		}
	}
	return digits != ""
}
