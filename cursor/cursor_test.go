package cursor

import (
	"encoding/binary"
	"math"
	"slices"
	"strings"
	"testing"

	"aquatint/api"
)

// wrongSizes are sizes that no number has.
var wrongSizes = []int{math.MinInt, math.MinInt + 1, -256, -4, -1, 0, 5, 6, 8, 256, 257, math.MaxInt - 1, math.MaxInt}

// value is the number of at most eight bytes, worked out by the library.
func value(s string) int {
	var all [8]byte
	copy(all[8-len(s):], s)
	return int(binary.BigEndian.Uint64(all[:]))
}

// all256 is a text in which each byte stands once.
func all256() string {
	var b []byte
	for i := range 256 {
		b = append(b, byte(i))
	}
	return string(b)
}

// stands fails the test, if a cursor isn't at the place in the text.
func stands(t *testing.T, c *Cursor, text string, at int) {
	t.Helper()
	if c.At() != at || c.Left() != len(text)-at {
		t.Fatalf("of %q: At %d, Left %d, want %d, %d", text, c.At(), c.Left(), at, len(text)-at)
	}
}

// remains fails the test, if what is left of the cursor isn't the text's from the place on.
func remains(t *testing.T, c *Cursor, text string, at int) {
	t.Helper()
	stands(t, c, text, at)
	if s := c.Rest(); s != text[at:] {
		t.Fatalf("Rest of %q at %d: %q", text, at, s)
	}
	stands(t, c, text, len(text))
	if s := c.Rest(); s != "" {
		t.Fatalf("a second Rest of %q: %q", text, s)
	}
	stands(t, c, text, len(text))
}

// Promise 2.1: the calls of a cursor.

func TestNewReadsNothing(t *testing.T) {
	for _, s := range []string{"", "a", "\x00", "\xff\xfe", all256(), strings.Repeat("x", 1<<20)} {
		remains(t, New(s), s, 0)
	}
}

func TestNumOfAllPlaces(t *testing.T) {
	text := all256()[120:140] + "\xff\xff\xff\xff\x00\x00\x00\x00\x80\x00\x00\x00"
	for at := range len(text) + 1 {
		for size := 1; size <= 4; size++ {
			c := New(text)
			if _, e := c.Take(at); e != api.OK {
				t.Fatalf("Take(%d) = %d", at, e)
			}
			n, e := c.Num(size)
			if len(text)-at < size {
				if n != 0 || e != api.ErrShort {
					t.Errorf("Num(%d) at %d = %d, %d, want ErrShort", size, at, n, e)
				}
				remains(t, c, text, at)
				continue
			}
			if want := value(text[at : at+size]); n != want || e != api.OK {
				t.Errorf("Num(%d) at %d = %d, %d, want %d", size, at, n, e, want)
			}
			remains(t, c, text, at+size)
		}
	}
}

func TestNumRefusesSizes(t *testing.T) {
	for _, size := range wrongSizes {
		for _, text := range []string{"", "abc", all256()} {
			at := len(text) / 2
			c := New(text)
			c.Take(at)
			if n, e := c.Num(size); n != 0 || e != api.ErrArg {
				t.Errorf("Num(%d) of %d bytes = %d, %d, want ErrArg", size, len(text), n, e)
			}
			remains(t, c, text, at)
		}
	}
}

func TestTakeOfAllPlaces(t *testing.T) {
	text := "\x00\xffabc\xc3\xa9"
	for at := range len(text) + 1 {
		for n := -3; n <= len(text)+3; n++ {
			c := New(text)
			c.Take(at)
			s, e := c.Take(n)
			want, wantE, end := "", api.ErrArg, at
			if n > len(text)-at {
				wantE = api.ErrShort
			} else if n >= 0 {
				want, wantE, end = text[at:at+n], api.OK, at+n
			}
			if s != want || e != wantE {
				t.Errorf("Take(%d) at %d = %q, %d, want %q, %d", n, at, s, e, want, wantE)
			}
			remains(t, c, text, end)
		}
	}
}

func TestSubOfAllPlaces(t *testing.T) {
	text := "\x00\xffabc\xc3\xa9"
	for at := range len(text) + 1 {
		for n := -3; n <= len(text)+3; n++ {
			c := New(text)
			c.Take(at)
			d, e := c.Sub(n)
			switch {
			case n < 0:
				if d != nil || e != api.ErrArg {
					t.Errorf("Sub(%d) at %d = %v, %d, want ErrArg", n, at, d, e)
				}
				remains(t, c, text, at)
			case n > len(text)-at:
				if d != nil || e != api.ErrShort {
					t.Errorf("Sub(%d) at %d = %v, %d, want ErrShort", n, at, d, e)
				}
				remains(t, c, text, at)
			default:
				if d == nil || e != api.OK {
					t.Fatalf("Sub(%d) at %d = %v, %d", n, at, d, e)
				}
				stands(t, c, text, at+n)
				remains(t, d, text[at:at+n], 0)
				remains(t, c, text, at+n)
			}
		}
	}
}

func TestSubEndsWithItsBytes(t *testing.T) {
	c := New("\x01\x02\x03\x04\x05")
	c.Take(1)
	d, e := c.Sub(3)
	if e != api.OK {
		t.Fatalf("Sub = %d", e)
	}
	if n, e := d.Num(4); n != 0 || e != api.ErrShort {
		t.Errorf("Num(4) of three bytes = %d, %d", n, e)
	}
	if n, e := d.Num(2); n != 0x0203 || e != api.OK || d.At() != 2 || d.Left() != 1 {
		t.Errorf("Num(2) = %d, %d, At %d, Left %d", n, e, d.At(), d.Left())
	}
	if n, e := c.Num(1); n != 5 || e != api.OK {
		t.Errorf("Num(1) behind Sub = %d, %d", n, e)
	}
	if s, e := d.Take(1); s != "\x04" || e != api.OK {
		t.Errorf("Take(1) of the sub = %q, %d", s, e)
	}
	if d, e := c.Sub(0); e != api.OK || d == nil || d.At() != 0 || d.Left() != 0 {
		t.Errorf("Sub(0) at the end = %v, %d", d, e)
	}
	for _, n := range []int{1, math.MaxInt} {
		if f, e := d.Sub(n); f != nil || e != api.ErrShort {
			t.Errorf("Sub(%d) of a sub at its end = %v, %d", n, f, e)
		}
	}
}

func TestLengthsFarOut(t *testing.T) {
	text := "abcdef"
	for at := range len(text) + 1 {
		for _, n := range []int{math.MinInt, math.MinInt + 1, math.MinInt32, math.MaxInt32, math.MaxInt - 3, math.MaxInt - 1, math.MaxInt} {
			want := api.ErrShort
			if n < 0 {
				want = api.ErrArg
			}
			c := New(text)
			c.Take(at)
			if s, e := c.Take(n); s != "" || e != want {
				t.Errorf("Take(%d) = %q, %d, want %d", n, s, e, want)
			}
			if d, e := c.Sub(n); d != nil || e != want {
				t.Errorf("Sub(%d) = %v, %d, want %d", n, d, e, want)
			}
			remains(t, c, text, at)
		}
	}
}

func TestNilCursor(t *testing.T) {
	var c *Cursor
	if c.At() != 0 || c.Left() != 0 || c.Rest() != "" {
		t.Errorf("of nil: At %d, Left %d, Rest %q", c.At(), c.Left(), c.Rest())
	}
	for _, n := range append([]int{1, 2, 3, 4}, wrongSizes...) {
		if v, e := c.Num(n); v != 0 || e != api.ErrArg {
			t.Errorf("Num(%d) of nil = %d, %d", n, v, e)
		}
		if s, e := c.Take(n); s != "" || e != api.ErrArg {
			t.Errorf("Take(%d) of nil = %q, %d", n, s, e)
		}
		if d, e := c.Sub(n); d != nil || e != api.ErrArg {
			t.Errorf("Sub(%d) of nil = %v, %d", n, d, e)
		}
	}
}

func TestCursorsOfOneText(t *testing.T) {
	text := "\x01\x02\x03"
	c, d := New(text), New(text)
	c.Num(2)
	stands(t, d, text, 0)
	d.Num(1)
	stands(t, c, text, 2)
	remains(t, d, text, 1)
	remains(t, c, text, 2)
}

func TestExample(t *testing.T) {
	c := New("\x01\x02\x03")
	if n, e := c.Num(2); n != 258 || e != api.OK {
		t.Errorf("Num(2) = %d, %d", n, e)
	}
	if n, e := c.Num(2); n != 0 || e != api.ErrShort {
		t.Errorf("Num(2) = %d, %d", n, e)
	}
	if s := c.Rest(); s != "\x03" {
		t.Errorf("Rest = %q", s)
	}
	if s, e := Put(258, 2); s != "\x01\x02" || e != api.OK {
		t.Errorf("Put(258, 2) = %q, %d", s, e)
	}
	if s, e := Put(256, 1); s != "" || e != api.ErrLarge {
		t.Errorf("Put(256, 1) = %q, %d", s, e)
	}
}

// Promise 2.2: numbers put, and read whole.

// near are numbers beside the edges of each size, and far beyond them.
func near() []int {
	l := []int{0, 1, 258, 0x010203, 0x01020304, 0x7fffffff, 0x80000000, 0xfffefdfc, math.MaxInt, math.MinInt, math.MinInt + 1}
	for shift := 7; shift < 63; shift++ {
		n := 1 << shift
		l = append(l, n-2, n-1, n, n+1, -n-1, -n, 1-n)
	}
	return l
}

func TestPutNearEdges(t *testing.T) {
	for _, n := range near() {
		for size := 1; size <= 4; size++ {
			s, e := Put(n, size)
			if n < 0 || n >= 1<<(8*size) {
				if s != "" || e != api.ErrLarge {
					t.Errorf("Put(%d, %d) = %q, %d, want ErrLarge", n, size, s, e)
				}
				continue
			}
			if len(s) != size || value(s) != n || e != api.OK {
				t.Errorf("Put(%d, %d) = %q, %d", n, size, s, e)
			}
		}
	}
}

func TestPutRefusesSizes(t *testing.T) {
	for _, size := range wrongSizes {
		for _, n := range near() {
			if s, e := Put(n, size); s != "" || e != api.ErrArg {
				t.Errorf("Put(%d, %d) = %q, %d, want ErrArg", n, size, s, e)
			}
		}
	}
}

func TestWholeOfAllLengths(t *testing.T) {
	text := all256() + "\xff\xff\xff\xff"
	for n := range len(text) + 1 {
		for size := 1; size <= 4; size++ {
			s := text[len(text)-n:]
			l, e := Whole(s, size)
			if n%size != 0 {
				if len(l) != 0 || e != api.ErrShort {
					t.Errorf("Whole of %d bytes by %d = %v, %d, want ErrShort", n, size, l, e)
				}
				continue
			}
			var want []int
			for i := 0; i < n; i += size {
				want = append(want, value(s[i:i+size]))
			}
			if !slices.Equal(l, want) || e != api.OK {
				t.Errorf("Whole of %d bytes by %d = %v, %d, want %v", n, size, l, e, want)
			}
		}
	}
}

func TestWholeRefusesSizes(t *testing.T) {
	for _, size := range wrongSizes {
		for _, s := range []string{"", "a", "abcd", "abcde", all256()} {
			if l, e := Whole(s, size); len(l) != 0 || e != api.ErrArg {
				t.Errorf("Whole(%q, %d) = %v, %d, want ErrArg", s, size, l, e)
			}
		}
	}
}

func TestWholeIsNewMemory(t *testing.T) {
	a, _ := Whole("\x01\x02\x03", 1)
	b, _ := Whole("\x01\x02\x03", 1)
	a = a[:cap(a)]
	for i := range a {
		a[i] = -1
	}
	if !slices.Equal(b, []int{1, 2, 3}) {
		t.Errorf("an answer changed with an earlier one: %v", b)
	}
}

// Promise 2.3: there and back.

// again fails the test, if bytes that are one number aren't read and put again as they are.
func again(t *testing.T, s string) {
	t.Helper()
	n, e := New(s).Num(len(s))
	if e != api.OK || n < 0 {
		t.Fatalf("Num of %q = %d, %d", s, n, e)
	}
	if p, e := Put(n, len(s)); p != s || e != api.OK {
		t.Fatalf("%q is read as %d, which is put as %q, %d", s, n, p, e)
	}
	if l, e := Whole(s, len(s)); !slices.Equal(l, []int{n}) || e != api.OK {
		t.Fatalf("Whole of %q = %v, %d, want %d", s, l, e, n)
	}
}

func TestAllShortNumbers(t *testing.T) {
	for size := 1; size <= 2; size++ {
		for n := range 1 << (8 * size) {
			s, e := Put(n, size)
			if e != api.OK || len(s) != size {
				t.Fatalf("Put(%d, %d) = %q, %d", n, size, s, e)
			}
			if got, e := New(s).Num(size); got != n || e != api.OK {
				t.Fatalf("%d is put as %q, which is read as %d, %d", n, s, got, e)
			}
			again(t, s)
		}
	}
}

func TestBytesOfLongNumbers(t *testing.T) {
	bytes := []byte{0x00, 0x01, 0x7f, 0x80, 0xfe, 0xff}
	for _, a := range bytes {
		for _, b := range bytes {
			for _, c := range bytes {
				again(t, string([]byte{a, b, c}))
				for _, d := range bytes {
					again(t, string([]byte{a, b, c, d}))
				}
			}
		}
	}
}

func TestNumbersInARow(t *testing.T) {
	var text string
	var want []int
	var sizes []int
	for i, n := range near() {
		size := i%4 + 1
		if s, e := Put(n, size); e == api.OK {
			text, want, sizes = text+s, append(want, n), append(sizes, size)
		}
	}
	c := New(text)
	for i, size := range sizes {
		if n, e := c.Num(size); n != want[i] || e != api.OK {
			t.Fatalf("the number %d of a row = %d, %d, want %d", i, n, e, want[i])
		}
	}
	remains(t, c, text, len(text))
}

func FuzzWhole(f *testing.F) {
	f.Add("", 1)
	f.Add("\x00\x01\x02\x03", 2)
	f.Add("\xff\xff\xff\xff\x80", 4)
	f.Fuzz(func(t *testing.T, s string, size int) {
		l, e := Whole(s, size)
		if e != api.OK {
			if len(l) != 0 {
				t.Errorf("Whole(%q, %d) = %v, %d", s, size, l, e)
			}
			return
		}
		var back strings.Builder
		c := New(s)
		for _, n := range l {
			if got, e := c.Num(size); got != n || e != api.OK {
				t.Errorf("Num(%d) = %d, %d, want %d", size, got, e, n)
			}
			p, e := Put(n, size)
			if e != api.OK {
				t.Errorf("Put(%d, %d) = %d", n, size, e)
			}
			back.WriteString(p)
		}
		if back.String() != s || c.Left() != 0 {
			t.Errorf("%q is put again as %q, %d left", s, back.String(), c.Left())
		}
	})
}
