package glyph

import (
	"math"
	"strings"
	"testing"
	"unicode"
	"unicode/utf8"

	"aquatint/api"
)

// span is runes from one to another one.
type span struct{ from, to rune }

func within(r rune, l []span) bool {
	for _, x := range l {
		if r >= x.from && r <= x.to {
			return true
		}
	}
	return false
}

// eachRune goes through all runes that a text can have, till the test has failed.
func eachRune(t *testing.T, f func(r rune, s string)) {
	for r := rune(0); r <= unicode.MaxRune && !t.Failed(); r++ {
		if utf8.ValidRune(r) {
			f(r, string(r))
		}
	}
}

// brokenTexts have a byte that is no text at their beginning.
var brokenTexts = []string{
	"\x80", "\xbf", "\xff", "\xc3", "\xe2\x82", "\xf0\x9f\x98",
	"\xc0\x80", "\xc1\xbf", "\xe0\x80\x80", "\xed\xa0\x80", "\xed\xbf\xbf",
	"\xf4\x90\x80\x80", "\xf5\x80\x80\x80", "\xef\xbf", "\xc3A",
}

// eachShort goes through all that has at most so many of the given pieces, till the test has failed.
func eachShort(t *testing.T, pieces []string, most int, f func(s string)) {
	var grow func(s string, left int)
	grow = func(s string, left int) {
		f(s)
		for _, p := range pieces {
			if left > 0 && !t.Failed() {
				grow(s+p, left-1)
			}
		}
	}
	grow("", most)
}

// mixed are pieces of texts, whole runes and bytes of which they are made.
var mixed = []string{"a", "Z", "\n", "\"", "\\", "\x7f", "\x80", "\xa9", "\xc3", "\xe2", "\xf0", "\xff", "\u00c9", "\u20ac", "\ufffd", "\U0001f600"}

// Promise 1.1: Valid.

func TestValidOfRunes(t *testing.T) {
	eachRune(t, func(r rune, s string) {
		if !Valid(s) {
			t.Errorf("Valid(%+q) = false", s)
		}
	})
	for _, s := range []string{"", "abc", "\ufffd", "a\ufffdb", strings.Repeat("\u20ac", 5000)} {
		if !Valid(s) {
			t.Errorf("Valid(%+q) = false", s)
		}
	}
}

func TestValidOfBytes(t *testing.T) {
	for _, s := range brokenTexts {
		for _, x := range []string{s, "a" + s, s + "a", "\ufffd" + s, s + "\ufffd"} {
			if Valid(x) {
				t.Errorf("Valid(%+q) = true", x)
			}
		}
	}
	eachShort(t, mixed, 4, func(s string) {
		if want := utf8.ValidString(s); Valid(s) != want {
			t.Errorf("Valid(%+q) = %v", s, !want)
		}
	})
}

// Promise 1.1: Name.

func TestNameOfOneRune(t *testing.T) {
	may := []span{{'-', '.'}, {'0', '9'}, {'A', 'Z'}, {'_', '_'}, {'a', 'z'}, {0xa1, 0x1fff}, {0x2070, 0xfefe}, {0xff00, 0xfffc}, {0x10000, 0x10ffff}}
	eachRune(t, func(r rune, s string) {
		want := within(r, may)
		for _, x := range []string{s, "a" + s, s + "a"} {
			if Name(x) != want {
				t.Errorf("Name(%+q) = %v", x, !want)
			}
		}
	})
}

func TestNameOfManyRunes(t *testing.T) {
	if Name("") {
		t.Error("a name of nothing")
	}
	for _, p := range []string{"a", "\u00e9", "\u20ac", "\U0001f600"} {
		for n := 1; n <= 60; n++ {
			if want := n <= 24; Name(strings.Repeat(p, n)) != want {
				t.Errorf("Name of %d times %q = %v", n, p, !want)
			}
		}
	}
}

func TestNameOfBytes(t *testing.T) {
	for _, s := range brokenTexts {
		for _, x := range []string{s, "a" + s, "a" + s + "a"} {
			if Name(x) {
				t.Errorf("Name(%+q) = true", x)
			}
		}
	}
}

// Promise 1.1: Note.

func testNote(t *testing.T, s string, at int, e api.Errno) {
	t.Helper()
	if a, err := Note(s); a != at || err != e {
		if len(s) > 50 {
			s = s[:20] + ".." + s[len(s)-20:]
		}
		t.Errorf("Note(%+q) = %d, %d; not %d, %d", s, a, err, at, e)
	}
}

func TestNoteOfOneRune(t *testing.T) {
	may := []span{{'\n', '\n'}, {0x20, 0x7e}, {0xa0, 0x10ffff}}
	eachRune(t, func(r rune, s string) {
		if within(r, may) {
			testNote(t, s, 0, api.OK)
			testNote(t, "\u20ac"+s+"b", 0, api.OK)
		} else {
			testNote(t, s, 0, api.ErrText)
			testNote(t, "\u20ac"+s+"b", 3, api.ErrText)
		}
	})
}

func TestNoteOfBytes(t *testing.T) {
	testNote(t, "", 0, api.OK)
	for _, s := range brokenTexts {
		testNote(t, s, 0, api.ErrText)
		testNote(t, "\u00e9"+s+"b", 2, api.ErrText)
	}
	testNote(t, "a\t\xff", 1, api.ErrText)
	testNote(t, "a\xff\t", 1, api.ErrText)
	testNote(t, "\ufffd\xff\ufffd", 3, api.ErrText)
}

func TestNoteThatIsLong(t *testing.T) {
	testNote(t, strings.Repeat("a", 1000), 0, api.OK)
	testNote(t, strings.Repeat("a", 1001), 1000, api.ErrLarge)
	testNote(t, strings.Repeat("\n", 5000), 1000, api.ErrLarge)
	testNote(t, strings.Repeat("\u00e9", 500), 0, api.OK)
	testNote(t, strings.Repeat("\u00e9", 501), 1000, api.ErrLarge)
	testNote(t, strings.Repeat("\u20ac", 333)+"ab", 1000, api.ErrLarge)
	testNote(t, strings.Repeat("\u20ac", 333)+"a", 0, api.OK)
	testNote(t, strings.Repeat("a", 999)+"\x00", 999, api.ErrText)
	testNote(t, strings.Repeat("a", 1000)+"\x7f", 1000, api.ErrText)
	testNote(t, strings.Repeat("a", 4000)+"\x80", 4000, api.ErrText)
	testNote(t, "\t"+strings.Repeat("a", 4000), 0, api.ErrText)
}

// Promise 1.2: Fold and Same.

func TestFoldOfOneRune(t *testing.T) {
	capital := []span{{'A', 'Z'}, {0xc0, 0xd6}, {0xd8, 0xde}, {0x391, 0x3a1}, {0x3a3, 0x3a9}, {0x400, 0x42f}}
	eachRune(t, func(r rune, s string) {
		want := s
		if within(r, capital) {
			want = string(unicode.ToLower(r))
		}
		if got := Fold(s); got != want {
			t.Errorf("Fold(%+q) = %+q, not %+q", s, got, want)
		}
		if got := Fold("X" + s + "Y"); got != "x"+want+"y" {
			t.Errorf("Fold of %+q within others = %+q", s, got)
		}
	})
}

func TestFoldOfBytes(t *testing.T) {
	for _, s := range brokenTexts {
		want := strings.ReplaceAll(s, "A", "a")
		if got := Fold("\u00c9" + s + "\u0401"); got != "\u00e9"+want+"\u0451" {
			t.Errorf("Fold of %+q within others = %+q", s, got)
		}
	}
	if got := Fold(""); got != "" {
		t.Errorf("Fold of nothing = %+q", got)
	}
	if got := Fold("\ufffd\xffA"); got != "\ufffd\xffa" {
		t.Errorf("Fold of U+FFFD and of a byte = %+q", got)
	}
}

func TestSame(t *testing.T) {
	for _, x := range []struct {
		a, b string
		want bool
	}{
		{"", "", true},
		{"a", "", false},
		{"", "A", false},
		{"\u00c9a", "\u00e9A", true},
		{"\u03a3", "\u03c3", true},
		{"\u03a3", "\u03c2", false},
		{"\u0401\u0416", "\u0451\u0436", true},
		{"\u00d7", "\u00f7", false},
		{"\u03a2", "\u03c2", false},
		{"K", "\u212a", false},
		{"\u00df", "SS", false},
		{"\u00ff", "\u0178", false},
		{"\u0100", "\u0101", false},
		{"@", "`", false},
		{"[", "{", false},
		{"\xffA", "\xffa", true},
		{"\xc3", "\xe3", false},
		{"\xff", "\ufffd", false},
		{"ab", "abc", false},
	} {
		if Same(x.a, x.b) != x.want || Same(x.b, x.a) != x.want {
			t.Errorf("Same(%+q, %+q) isn't %v", x.a, x.b, x.want)
		}
	}
}

// Promise 1.2: Count and Cut.

func TestCount(t *testing.T) {
	for s, want := range map[string]int{"": 0, "a": 1, "\u00e9": 1, "\u20ac\U0001f600": 2, "\ufffd": 1, "\xff": 1, "\xe2\x82": 2, "\xed\xa0\x80": 3, "a\xc3b": 3} {
		if n := Count(s); n != want {
			t.Errorf("Count(%+q) = %d", s, n)
		}
	}
	eachShort(t, mixed, 4, func(s string) {
		if n, want := Count(s), utf8.RuneCountInString(s); n != want {
			t.Errorf("Count(%+q) = %d, not %d", s, n, want)
		}
	})
}

// ends answers all places of a text that lie within no rune.
func ends(s string) []int {
	l := []int{0}
	for at := 0; at < len(s); {
		_, n := utf8.DecodeRuneInString(s[at:])
		at += n
		l = append(l, at)
	}
	return l
}

func TestCut(t *testing.T) {
	eachShort(t, mixed, 3, func(s string) {
		for n := -2; n <= len(s)+2; n++ {
			want := ""
			for _, end := range ends(s) {
				if end <= n {
					want = s[:end]
				}
			}
			if got := Cut(s, n); got != want {
				t.Errorf("Cut(%+q, %d) = %+q, not %+q", s, n, got, want)
			}
		}
	})
}

func TestCutByAnyNumber(t *testing.T) {
	for n, want := range map[int]string{math.MinInt: "", -1: "", 0: "", 1: "", 2: "\u00e9", 3: "\u00e9\xff", 4: "\u00e9\xffa", math.MaxInt: "\u00e9\xffa"} {
		if got := Cut("\u00e9\xffa", n); got != want {
			t.Errorf("Cut by %d = %+q", n, got)
		}
		if got := Cut("", n); got != "" {
			t.Errorf("Cut of nothing by %d = %+q", n, got)
		}
	}
}

// Promise 1.5: a fold's fold is itself.

func testFoldTwice(t *testing.T, s string) {
	t.Helper()
	once := Fold(s)
	if twice := Fold(once); twice != once {
		t.Errorf("the fold of %+q is %+q, and of that %+q", s, once, twice)
	}
	if !Same(s, once) {
		t.Errorf("%+q isn't the same as its fold", s)
	}
}

func TestFoldTwice(t *testing.T) {
	eachRune(t, func(r rune, s string) { testFoldTwice(t, s) })
	eachShort(t, mixed, 4, func(s string) { testFoldTwice(t, s) })
}

func FuzzFold(f *testing.F) {
	for _, s := range brokenTexts {
		f.Add(s)
	}
	f.Fuzz(func(t *testing.T, s string) { testFoldTwice(t, s) })
}
