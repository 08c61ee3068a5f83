// Package chars is layer 1: bytes as characters: see shared/doc/01-chars.md.
package chars

// The replacement is U+FFFD, as a character and as its bytes.
const (
	replacement      rune = 0xfffd
	replacementBytes      = "\xef\xbf\xbd"
)

// Decode is s with the replacement in the place of each invalid byte and of each byte 0.
func Decode(s string) string {
	out := make([]byte, 0, len(s))
	// The range itself gives the replacement for an invalid byte, and goes on one byte further.
	for _, r := range s {
		if r == 0 {
			r = replacement
		}
		out = append(out, string(r)...)
	}
	return string(out)
}

// Lines is s with all ends of lines made one: byte 10.
func Lines(s string) string {
	out := make([]byte, 0, len(s))
	// Byte by byte: 10 and 13 are part of no other character, and invalid bytes must stay as they are.
	for i := range len(s) {
		switch {
		case s[i] == '\r':
			out = append(out, '\n')
		case s[i] == '\n' && i > 0 && s[i-1] == '\r':
			// The 13 ahead of it stands for both.
		default:
			out = append(out, s[i])
		}
	}
	return string(out)
}

// Ready is s decoded, with all ends of lines made one.
func Ready(s string) string { return Lines(Decode(s)) }

// Right tells whether s has no invalid byte.
func Right(s string) bool {
	for i, r := range s {
		if r == replacement && !startsReplaced(s[i:]) {
			return false
		}
	}
	return true
}

// startsReplaced tells the replacement that s itself has from the one that a range gives for an invalid byte.
func startsReplaced(s string) bool {
	n := len(replacementBytes)
	return len(s) >= n && s[:n] == replacementBytes
}

// Count is how many characters and invalid bytes s has.
func Count(s string) int {
	n := 0
	for range s {
		n++
	}
	return n
}

// Sample is the first n characters and invalid bytes of s, or all, if there are fewer.
func Sample(s string, n int) string {
	for i := range s {
		if n < 1 {
			return s[:i]
		}
		n--
	}
	return s
}
