package lex

import "strings"

// shortSigns are the signs of one byte.
const shortSigns = ":{}[](),;="

// after returns the first offset from at on whose byte is not to be skipped, or the length of s.
func after(s string, at int, skip func(b byte) bool) int {
	for at < len(s) && skip(s[at]) {
		at++
	}
	return at
}

// afterSpace returns the offset behind the white space at an offset.
func afterSpace(s string, at int) int {
	comment := false
	return after(s, at, func(b byte) bool {
		switch b {
		case '%':
			comment = true
		case '\n':
			// The line feed is not part of the comment that it ends, but white space itself.
			comment = false
		}
		return comment || isBlank(b)
	})
}

// afterName returns the offset behind the name that begins at an offset, or the offset itself if
// none does.
func afterName(s string, at int) int {
	begun := false
	return after(s, at, func(b byte) bool {
		part := isLetter(b) || begun && isDigit(b)
		begun = true
		return part
	})
}

// afterNumber returns the offset behind the number that begins at an offset, or the offset itself
// if none does.
func afterNumber(s string, at int) int {
	first := at
	if s[at] == '-' {
		first++
	}
	end := after(s, first, isDigit)
	if end == first {
		return at
	}
	return end
}

// afterSign returns the offset behind the sign that begins at an offset, or the offset itself if
// none does.
func afterSign(s string, at int) int {
	rest := s[at:]
	// The longest token counts: two colons are one sign.
	if strings.HasPrefix(rest, "::") || strings.HasPrefix(rest, "..") {
		return at + 2
	}
	if strings.IndexByte(shortSigns, rest[0]) >= 0 {
		return at + 1
	}
	return at
}

func isBlank(b byte) bool {
	return b == ' ' || b == '\t' || b == '\n' || b == '\r'
}

func isLetter(b byte) bool {
	return b >= 'a' && b <= 'z' || b >= 'A' && b <= 'Z' || b == '_'
}

func isDigit(b byte) bool {
	return b >= '0' && b <= '9'
}
