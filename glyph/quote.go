package glyph

import (
	"aquatint/api"
	"strconv"
	"unicode/utf8"
)

// Quote prints a text.
func Quote(s string) string {
	out := make([]byte, 0, len(s)+2)
	out = append(out, '"')
	for at, r := range s {
		if broken(s, at, r) {
			out = quoteByte(out, s[at])
		} else {
			out = quoteRune(out, r)
		}
	}
	out = append(out, '"')
	return string(out)
}

// quoteRune puts a rune behind what was printed.
func quoteRune(out []byte, r rune) []byte {
	switch {
	case r == '"', r == '\\':
		return append(out, '\\', byte(r))
	case r == '\n':
		return append(out, '\\', 'n')
	case r >= 0x20 && r <= 0x7e:
		return append(out, byte(r))
	}
	out = append(out, '\\', 'u', '{')
	out = strconv.AppendInt(out, int64(r), 16)
	return append(out, '}')
}

// quoteByte puts a byte that is no text behind what was printed.
// Such a byte is never below 80: its number has two digits.
func quoteByte(out []byte, c byte) []byte {
	out = append(out, '\\', 'x')
	return strconv.AppendInt(out, int64(c), 16)
}

// Unquote reads a quoted text.
func Unquote(s string) (string, int, api.Errno) {
	at, e := expect(s, 0, '"')
	if e != api.OK {
		return "", at, e
	}
	var out []byte
	for at < len(s) {
		c := s[at]
		switch {
		case c == '"':
			return string(out), at + 1, api.OK
		case c == '\\':
			out, at, e = unquoteBackslash(out, s, at+1)
			if e != api.OK {
				return "", at, e
			}
		case c >= 0x20 && c <= 0x7e:
			out = append(out, c)
			at++
		default:
			return "", at, api.ErrText
		}
	}
	return "", at, api.ErrShort
}

// expect answers the place behind a byte that must stand at a place; beside an error, that place.
func expect(s string, at int, c byte) (int, api.Errno) {
	if at >= len(s) {
		return at, api.ErrShort
	}
	if s[at] != c {
		return at, api.ErrText
	}
	return at + 1, api.OK
}

// unquoteBackslash reads what stands behind a backslash, puts it behind what
// was read, and answers the place behind it; beside an error, the error's place.
func unquoteBackslash(out []byte, s string, at int) ([]byte, int, api.Errno) {
	if at >= len(s) {
		return nil, at, api.ErrShort
	}
	switch s[at] {
	case '"', '\\':
		return append(out, s[at]), at + 1, api.OK
	case 'n':
		return append(out, '\n'), at + 1, api.OK
	case 'x':
		return unquoteByte(out, s, at+1)
	case 'u':
		return unquoteRune(out, s, at+1)
	}
	return nil, at, api.ErrText
}

// unquoteByte reads the two digits of a byte.
func unquoteByte(out []byte, s string, at int) ([]byte, int, api.Errno) {
	n := 0
	for range 2 {
		if at >= len(s) {
			return nil, at, api.ErrShort
		}
		d, ok := digit(s[at])
		if !ok {
			return nil, at, api.ErrText
		}
		n = n*16 + d
		at++
	}
	return append(out, byte(n)), at, api.OK
}

// unquoteRune reads a rune's number, with the braces about it.
func unquoteRune(out []byte, s string, at int) ([]byte, int, api.Errno) {
	first, e := expect(s, at, '{')
	if e != api.OK {
		return nil, first, e
	}
	n, end := number(s, first)
	next, e := expect(s, end, '}')
	if e != api.OK {
		return nil, next, e
	}
	if end == first || !utf8.ValidRune(rune(n)) {
		return nil, end, api.ErrText
	}
	return utf8.AppendRune(out, rune(n)), next, api.OK
}

// number reads at most six digits, and none behind a nought that stands first.
// It answers the place of the first byte that it didn't read.
func number(s string, first int) (int, int) {
	n, at := 0, first
	for at < len(s) && at < first+6 {
		d, ok := digit(s[at])
		if !ok {
			break
		}
		n = n*16 + d
		at++
		if n == 0 {
			break
		}
	}
	return n, at
}

// digit answers what a small hexadecimal digit stands for.
func digit(c byte) (int, bool) {
	switch {
	case c >= '0' && c <= '9':
		return int(c - '0'), true
	case c >= 'a' && c <= 'f':
		return int(c-'a') + 10, true
	}
	return 0, false
}
