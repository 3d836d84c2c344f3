// Package glyph is layer 1: see shared/doc/01-glyph.md.
package glyph

import (
	"aquatint/api"
	"unicode/utf8"
)

// Valid tells whether bytes are a text.
func Valid(s string) bool {
	for at, r := range s {
		if broken(s, at, r) {
			return false
		}
	}
	return true
}

// broken tells whether what a range found at a place is a byte that is no text.
// U+FFFD alone doesn't tell: written out, in three bytes, it is a rune like others.
func broken(s string, at int, r rune) bool {
	if r != utf8.RuneError {
		return false
	}
	_, size := utf8.DecodeRuneInString(s[at:])
	return size == 1
}

// Name tells whether bytes are a name.
func Name(s string) bool {
	n := 0
	for _, r := range s {
		n++
		if n > api.MaxName || !nameRune(r) {
			return false
		}
	}
	return n > 0
}

// nameRune tells whether a rune may stand in a name. A byte that is no text
// needs no question of its own: a range finds it as U+FFFD, which may not.
func nameRune(r rune) bool {
	switch {
	case r >= 'a' && r <= 'z', r >= 'A' && r <= 'Z', r >= '0' && r <= '9':
		return true
	case r == '-', r == '_', r == '.':
		return true
	case r >= 0x2000 && r <= 0x206f, r == 0xfeff, r >= 0xfffd && r <= 0xffff:
		return false
	}
	return r >= 0xa1
}

// Note tells whether bytes are a note.
func Note(s string) (int, api.Errno) {
	for at, r := range s {
		if broken(s, at, r) || !noteRune(r) {
			return at, api.ErrText
		}
	}
	if len(s) > api.MaxNote {
		return api.MaxNote, api.ErrLarge
	}
	return 0, api.OK
}

// noteRune tells whether a rune may stand in a note.
func noteRune(r rune) bool {
	if r < 0x20 {
		return r == '\n'
	}
	return r < 0x7f || r > 0x9f
}

// Fold answers a text's fold.
func Fold(s string) string {
	out := make([]byte, 0, len(s))
	for at, r := range s {
		if broken(s, at, r) {
			out = append(out, s[at])
		} else {
			out = utf8.AppendRune(out, foldRune(r))
		}
	}
	return string(out)
}

// foldRune answers a rune's fold.
func foldRune(r rune) rune {
	switch {
	case r == 0xd7, r == 0x3a2: // they stand among capitals, and are none
		return r
	case r >= 'A' && r <= 'Z',
		r >= 0xc0 && r <= 0xde,
		r >= 0x391 && r <= 0x3a9,
		r >= 0x410 && r <= 0x42f:
		return r + 32
	case r >= 0x400 && r <= 0x40f:
		return r + 80
	}
	return r
}

// Same tells whether two texts have one fold.
func Same(a, b string) bool {
	return Fold(a) == Fold(b)
}

// Count answers how many runes there are.
func Count(s string) int {
	n := 0
	for range s {
		n++
	}
	return n
}

// Cut answers a beginning of at most so many bytes.
func Cut(s string, n int) string {
	if n >= len(s) {
		return s
	}
	end := 0
	for at := range s {
		if at > n {
			break
		}
		end = at
	}
	return s[:end]
}
