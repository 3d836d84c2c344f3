package glyph

import (
	"fmt"
	"regexp"
	"strings"
	"testing"

	"aquatint/api"
)

// Promise 1.3: Quote.

func TestQuoteOfOneRune(t *testing.T) {
	eachRune(t, func(r rune, s string) {
		want := fmt.Sprintf("\\u{%x}", r)
		switch {
		case s == "\"" || s == "\\":
			want = "\\" + s
		case s == "\n":
			want = "\\n"
		case s >= " " && s <= "~":
			want = s
		}
		if got := Quote(s); got != "\""+want+"\"" {
			t.Errorf("Quote(%+q) = %s", s, got)
		}
		if got := Quote("a" + s + "b"); got != "\"a"+want+"b\"" {
			t.Errorf("Quote of %+q within others = %s", s, got)
		}
	})
}

func TestQuoteOfBytes(t *testing.T) {
	for c := 0x80; c <= 0xff; c++ {
		if got, want := Quote("a"+string([]byte{byte(c)})+"b"), fmt.Sprintf("\"a\\x%02xb\"", c); got != want {
			t.Errorf("Quote of the byte %02x = %s", c, got)
		}
	}
	for _, x := range []struct{ s, want string }{
		{"", "\"\""},
		{"\xed\xa0\x80", "\"\\xed\\xa0\\x80\""},
		{"\xc0\x80", "\"\\xc0\\x80\""},
		{"\xe2\x82", "\"\\xe2\\x82\""},
		{"\xc3A", "\"\\xc3A\""},
		{"\ufffd\xff", "\"\\u{fffd}\\xff\""},
		{"\u00e9\\\xff", "\"\\u{e9}\\\\\\xff\""},
		{"\x00\t\r\x1f\x7f\u0080", "\"\\u{0}\\u{9}\\u{d}\\u{1f}\\u{7f}\\u{80}\""},
	} {
		if got := Quote(x.s); got != x.want {
			t.Errorf("Quote(%+q) = %s, not %s", x.s, got, x.want)
		}
	}
}

// Promise 1.4: Unquote.

func testUnquote(t *testing.T, s, want string, n int, e api.Errno) {
	t.Helper()
	if got, at, err := Unquote(s); got != want || at != n || err != e {
		t.Errorf("Unquote(%+q) = %+q, %d, %d; not %+q, %d, %d", s, got, at, err, want, n, e)
	}
}

func TestUnquoteOfAnyForm(t *testing.T) {
	eachRune(t, func(r rune, s string) {
		q := fmt.Sprintf("\"\\u{%x}\"", r)
		testUnquote(t, q, s, len(q), api.OK)
	})
	for c := 0; c <= 0xff; c++ {
		testUnquote(t, fmt.Sprintf("\"\\x%02x\"", c), string([]byte{byte(c)}), 6, api.OK)
		s := string([]byte{byte(c)})
		switch {
		case s == "\"":
			testUnquote(t, "\""+s+"\"", "", 2, api.OK)
		case s == "\\":
			testUnquote(t, "\""+s+"\"", "", 3, api.ErrShort)
		case s >= " " && s <= "~":
			testUnquote(t, "\""+s+"\"", s, 3, api.OK)
		default:
			testUnquote(t, "\""+s+"\"", "", 1, api.ErrText)
		}
	}
	testUnquote(t, "\"\\xc3\\xa9\"", "\u00e9", 10, api.OK)
	testUnquote(t, "\"a\\\"b\\\\c\\nd\"", "a\"b\\c\nd", 12, api.OK)
}

func TestUnquoteLeavesTheRest(t *testing.T) {
	for _, rest := range []string{"", " ", "\"", "\\", "\x00", "\xff", "\u00e9", "\"a\"", "a\n"} {
		testUnquote(t, "\"\""+rest, "", 2, api.OK)
		testUnquote(t, "\"a\\n\""+rest, "a\n", 5, api.OK)
	}
}

func TestUnquoteOfWrongNumbers(t *testing.T) {
	for _, x := range []struct {
		s  string
		at int
		e  api.Errno
	}{
		{"\"\\u{}\"", 4, api.ErrText},
		{"\"\\u{00}\"", 5, api.ErrText},
		{"\"\\u{0041}\"", 5, api.ErrText},
		{"\"\\u{0g}\"", 5, api.ErrText},
		{"\"\\u{A}\"", 4, api.ErrText},
		{"\"\\u{eF}\"", 5, api.ErrText},
		{"\"\\u{-1}\"", 4, api.ErrText},
		{"\"\\u{+1}\"", 4, api.ErrText},
		{"\"\\u{ 1}\"", 4, api.ErrText},
		{"\"\\u{1 }\"", 5, api.ErrText},
		{"\"\\u{1\"", 5, api.ErrText},
		{"\"\\u41\"", 3, api.ErrText},
		{"\"\\u(41)\"", 3, api.ErrText},
		{"\"\\U{41}\"", 2, api.ErrText},
		{"\"\\u{d7ff}\\u{e000}\\u{d800}\"", 24, api.ErrText},
		{"\"\\u{dfff}\"", 8, api.ErrText},
		{"\"\\u{dfff", 8, api.ErrShort},
		{"\"\\u{d800\"", 8, api.ErrText},
		{"\"\\u{110000}\"", 10, api.ErrText},
		{"\"\\u{110000", 10, api.ErrShort},
		{"\"\\u{ffffff}\"", 10, api.ErrText},
		{"\"\\u{ffffff0}\"", 10, api.ErrText},
		{"\"\\u{10ffff0}\"", 10, api.ErrText},
		{"\"\\x\"", 3, api.ErrText},
		{"\"\\x4\"", 4, api.ErrText},
		{"\"\\x4G\"", 4, api.ErrText},
		{"\"\\x4F\"", 4, api.ErrText},
		{"\"\\xF4\"", 3, api.ErrText},
		{"\"\\x{41}\"", 3, api.ErrText},
		{"\"\\X41\"", 2, api.ErrText},
	} {
		testUnquote(t, x.s, "", x.at, x.e)
	}
}

func TestUnquoteOfWrongBytes(t *testing.T) {
	testUnquote(t, "", "", 0, api.ErrShort)
	for c := 0; c <= 0xff; c++ {
		s := string([]byte{byte(c)})
		if s != "\"" {
			testUnquote(t, s+"\"a\"", "", 0, api.ErrText)
		}
		if !strings.Contains("\"\\nxu", s) {
			testUnquote(t, "\"ab\\"+s+"\"", "", 4, api.ErrText)
		}
	}
	testUnquote(t, "\"a\nb\"", "", 2, api.ErrText)
	testUnquote(t, "\"ab\x7f\"", "", 3, api.ErrText)
	testUnquote(t, "\"a\u00e9", "", 2, api.ErrText)
	testUnquote(t, "\"a", "", 2, api.ErrShort)
	testUnquote(t, "\"a\\\"", "", 4, api.ErrShort)
}

// The forms of a quoted text, and what of one may stand at an end.
const (
	runeNumber = `(?:0|[1-9a-f][0-9a-f]{0,2}|[1-9abcef][0-9a-f]{3}|d[0-7][0-9a-f]{2}|[1-9a-f][0-9a-f]{4}|10[0-9a-f]{4})`
	quotedBody = `"(?:[ !#-\[\]-~]|\\["\\n]|\\x[0-9a-f]{2}|\\u\{` + runeNumber + `\})*`
	quotedTail = `(?:\\(?:x[0-9a-f]?|u(?:\{(?:0|[1-9a-f][0-9a-f]{0,5})?)?)?)?`
)

var (
	quotedWhole = regexp.MustCompile(`^` + quotedBody + `"$`)
	quotedSoFar = regexp.MustCompile(`^` + quotedBody + quotedTail + `$`)
)

// fault answers how many bytes quoted text takes, or where it can't go on.
func fault(s string) (int, api.Errno) {
	for at := range len(s) {
		ahead := s[:at+1]
		if quotedWhole.MatchString(ahead) {
			return at + 1, api.OK
		}
		if !quotedSoFar.MatchString(ahead) {
			return at, api.ErrText
		}
	}
	return len(s), api.ErrShort
}

func TestUnquoteTellsTheFirstFault(t *testing.T) {
	pieces := []string{"\"", "\\", "u", "x", "n", "{", "}", "0", "1", "8", "d", "f", "F", "g", " ", "\x1f", "\xc3"}
	for _, head := range []string{"", "\"", "\"\\", "\"\\x", "\"\\u{", "\"\\u{d", "\"\\u{d8", "\"\\u{10f", "\"\\u{11000", "\"a\\n\\x0"} {
		eachShort(t, pieces, 3, func(s string) {
			want, e := fault(head + s)
			got, at, err := Unquote(head + s)
			if at != want || err != e {
				t.Errorf("Unquote(%+q) tells %d, %d; not %d, %d", head+s, at, err, want, e)
			}
			if err != api.OK && got != "" {
				t.Errorf("Unquote(%+q) answers %+q beside an error", head+s, got)
			}
		})
	}
}

// Promise 1.5: what was quoted is unquoted as it was.

func testThereAndBack(t *testing.T, s string) {
	t.Helper()
	q := Quote(s)
	testUnquote(t, q, s, len(q), api.OK)
	testUnquote(t, q+"\"a", s, len(q), api.OK)
}

func TestThereAndBack(t *testing.T) {
	eachRune(t, func(r rune, s string) { testThereAndBack(t, s) })
	eachShort(t, mixed, 4, func(s string) { testThereAndBack(t, s) })
	for c := range 256 {
		for d := range 256 {
			testThereAndBack(t, string([]byte{byte(c), byte(d)}))
		}
	}
	testThereAndBack(t, strings.Repeat("\u00e9\xff\n\"\\", 20000))
}

func TestQuotedInPartIsShort(t *testing.T) {
	q := Quote("a\"\\\n\u00e9\x00\xff\U0010ffff~")
	for n := range len(q) {
		testUnquote(t, q[:n], "", n, api.ErrShort)
	}
}

func FuzzQuote(f *testing.F) {
	for _, s := range brokenTexts {
		f.Add(s)
	}
	f.Fuzz(func(t *testing.T, s string) { testThereAndBack(t, s) })
}

func FuzzUnquote(f *testing.F) {
	f.Add("\"a\\u{41}\\x41\\n\"b")
	f.Add("\"\\u{110000}\"")
	f.Fuzz(func(t *testing.T, s string) {
		got, at, e := Unquote(s)
		if want, err := fault(s); at != want || e != err || e != api.OK && got != "" {
			t.Errorf("Unquote(%+q) = %+q, %d, %d; not %d, %d", s, got, at, e, want, err)
		}
	})
}
