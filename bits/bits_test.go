package bits

import (
	"fmt"
	"math"
	"math/rand/v2"
	"strconv"
	"strings"
	"testing"

	"aquatint/api"
)

// wrongCounts are numbers of bits that are neither read nor put.
var wrongCounts = []int{math.MinInt, math.MinInt + 1, -64, -17, -16, -1, 17, 18, 32, 63, 64, 65, 256, 272, math.MaxInt - 1, math.MaxInt}

// texts are all those of at most so many of the bytes.
func texts(bytes string, most int) []string {
	all, last := []string{""}, []string{""}
	for range most {
		var next []string
		for _, s := range last {
			for i := range len(bytes) {
				next = append(next, s+bytes[i:i+1])
			}
		}
		all, last = append(all, next...), next
	}
	return all
}

// number is what digits 0 and 1 tell.
func number(t *testing.T, digits string) int {
	t.Helper()
	if digits == "" {
		return 0
	}
	n, err := strconv.ParseInt(digits, 2, 64)
	if err != nil {
		t.Fatal(err)
	}
	return int(n)
}

// spelt is a reader told another way: all of its data's bits spelt out as
// digits, with the place behind the byte that each is of.
type spelt struct {
	text   string
	from   int
	digits string
	ends   []int
	read   int
}

func spell(text string, from int) *spelt {
	m := &spelt{text: text, from: from}
	for p := from; p < len(text); {
		size := 1
		if strings.HasPrefix(text[p:], "\xff\x00") {
			size = 2
		} else if text[p] == 0xff {
			break
		}
		m.digits += fmt.Sprintf("%08b", text[p])
		p += size
		for range 8 {
			m.ends = append(m.ends, p)
		}
	}
	return m
}

func (m *spelt) at() int {
	if m.read == 0 {
		return m.from
	}
	return m.ends[m.read-1]
}

// marker is the code that comes next and the place behind it, 0 and 0 of none.
func (m *spelt) marker() (int, int) {
	p := m.at()
	rest := m.text[p:]
	ffs := 0
	for strings.HasPrefix(rest[ffs:], "\xff") {
		ffs++
	}
	if ffs == 0 || ffs == len(rest) || rest[ffs] == 0 {
		return 0, 0
	}
	return int(rest[ffs]), p + ffs + 1
}

// stands fails the test, if what a reader tells without moving isn't so.
func stands(t *testing.T, r *Reader, m *spelt) {
	t.Helper()
	if r.At() != m.at() {
		t.Fatalf("of %x from %d, %d bits read: At = %d, want %d", m.text, m.from, m.read, r.At(), m.at())
	}
	want, _ := m.marker()
	if code, ok := r.Marker(); code != want || ok != (want != 0) {
		t.Fatalf("of %x from %d, %d bits read: Marker = %x, %v, want %x", m.text, m.from, m.read, code, ok, want)
	}
}

// bitsAlike reads bits of both, and fails the test, if they aren't alike.
func bitsAlike(t *testing.T, r *Reader, m *spelt, n int) {
	t.Helper()
	v, e := r.Bits(n)
	want, wantE := 0, api.OK
	if n < 0 || n > 16 {
		wantE = api.ErrArg
	} else if n > len(m.digits)-m.read {
		wantE = api.ErrShort
	} else {
		want = number(t, m.digits[m.read:m.read+n])
		m.read += n
	}
	if v != want || e != wantE {
		t.Fatalf("of %x from %d: Bits(%d) = %x, %d, want %x, %d", m.text, m.from, n, v, e, want, wantE)
	}
	stands(t, r, m)
}

func alignAlike(t *testing.T, r *Reader, m *spelt) {
	t.Helper()
	wantN := (8 - m.read%8) % 8
	want := number(t, m.digits[m.read:m.read+wantN])
	m.read += wantN
	if n, v := r.Align(); n != wantN || v != want {
		t.Fatalf("of %x from %d: Align = %d, %x, want %d, %x", m.text, m.from, n, v, wantN, want)
	}
	stands(t, r, m)
}

// skipAlike answers the model that goes on: behind a marker other data begins.
func skipAlike(t *testing.T, r *Reader, m *spelt) *spelt {
	t.Helper()
	code, end := m.marker()
	if ok := r.Skip(); ok != (code != 0) {
		t.Fatalf("of %x from %d, %d bits read: Skip = %v", m.text, m.from, m.read, ok)
	}
	if code != 0 {
		m = spell(m.text, end)
	}
	stands(t, r, m)
	return m
}

// start has a reader and its model, at a place that may lie without.
func start(t *testing.T, text string, at int) (*Reader, *spelt) {
	t.Helper()
	r, m := NewReader(text, at), spell(text, min(max(at, 0), len(text)))
	stands(t, r, m)
	return r, m
}

// readAlike does steps told by bytes, and fails the test, if the reader isn't as its model.
func readAlike(t *testing.T, text string, at int, steps []byte) {
	t.Helper()
	r, m := start(t, text, at)
	for _, step := range steps {
		switch n := int(step) % 24; {
		case n < 19:
			bitsAlike(t, r, m, n-1)
		case n < 21:
			alignAlike(t, r, m)
		default:
			m = skipAlike(t, r, m)
		}
	}
}

// Promise 3.1: bits are read.

func TestNewReaderAtAllPlaces(t *testing.T) {
	for _, text := range []string{"", "a", "\xff", "\xff\x00", "\xff\xd0\x12", "\x12\x34\xff\x00\x56", "\xff\xff\x00\x01"} {
		for at := -2; at <= len(text)+2; at++ {
			r, m := start(t, text, at)
			for range 6 {
				bitsAlike(t, r, m, 8)
			}
		}
		for _, at := range []int{math.MinInt, math.MinInt32, math.MaxInt32, math.MaxInt - 1, math.MaxInt} {
			r, m := start(t, text, at)
			bitsAlike(t, r, m, 1)
		}
	}
}

func TestBitsOfAllSizes(t *testing.T) {
	text := "\xa5\xff\x00\x0f\x80\xff\x00\xff\x00\x01\x7e\xff\xd9"
	for begun := range 8 {
		for n := range 17 {
			r, m := start(t, text, 0)
			bitsAlike(t, r, m, begun)
			for m.read+n <= len(m.digits) && n > 0 {
				bitsAlike(t, r, m, n)
			}
			bitsAlike(t, r, m, n)
			for n := range 17 {
				bitsAlike(t, r, m, 16-n)
			}
			alignAlike(t, r, m)
		}
	}
}

func TestShortDataReadsNothing(t *testing.T) {
	for _, end := range []string{"", "\xff", "\xff\xff", "\xff\xff\xff", "\xff\xff\x00", "\xff\xff\xff\x00\x12", "\xff\x01", "\xff\xfe\x12\x34", "\xff\xff\xd0\x12"} {
		for begun := 1; begun <= 16; begun++ {
			r, m := start(t, "\x5a\xc3"+end, 0)
			bitsAlike(t, r, m, begun)
			for n := 17 - begun; n <= 16; n++ {
				if v, e := r.Bits(n); v != 0 || e != api.ErrShort {
					t.Fatalf("Bits(%d) of %d bits = %x, %d, want ErrShort", n, 16-begun, v, e)
				}
				stands(t, r, m)
			}
			bitsAlike(t, r, m, 0)
			bitsAlike(t, r, m, (16-begun)/2)
			bitsAlike(t, r, m, 16-m.read)
			bitsAlike(t, r, m, 0)
			bitsAlike(t, r, m, 1)
		}
	}
}

func TestShortDataLeavesWhatWasBegun(t *testing.T) {
	r := NewReader("\xff\x00\xff", 0)
	if v, e := r.Bits(3); v != 7 || e != api.OK || r.At() != 2 {
		t.Fatalf("Bits(3) = %d, %d, At %d", v, e, r.At())
	}
	if v, e := r.Bits(6); v != 0 || e != api.ErrShort || r.At() != 2 {
		t.Fatalf("Bits(6) = %d, %d, At %d", v, e, r.At())
	}
	if n, v := r.Align(); n != 5 || v != 31 || r.At() != 2 {
		t.Fatalf("Align = %d, %d, At %d", n, v, r.At())
	}
	if n, v := r.Align(); n != 0 || v != 0 || r.At() != 2 {
		t.Fatalf("a second Align = %d, %d, At %d", n, v, r.At())
	}
}

func TestReaderRefusesCounts(t *testing.T) {
	for _, n := range wrongCounts {
		for _, text := range []string{"", "\xff\xd0", "\x12\xff\x00\x34"} {
			for begun := range 4 {
				r, m := start(t, text, 0)
				bitsAlike(t, r, m, begun)
				if v, e := r.Bits(n); v != 0 || e != api.ErrArg {
					t.Errorf("Bits(%d) = %d, %d, want ErrArg", n, v, e)
				}
				stands(t, r, m)
				bitsAlike(t, r, m, 3)
				alignAlike(t, r, m)
			}
		}
	}
}

func TestAlignOfAllPlaces(t *testing.T) {
	for _, text := range []string{"\x6b", "\x80\x01", "\xff\x00\x12", "\x12\xff\x00", "\x12\xff\xd0", "\xfe\xff\xff\x00"} {
		for begun := range 17 {
			r, m := start(t, text, 0)
			bitsAlike(t, r, m, begun)
			alignAlike(t, r, m)
			alignAlike(t, r, m)
			bitsAlike(t, r, m, 8)
			bitsAlike(t, r, m, 1)
			alignAlike(t, r, m)
		}
	}
}

func TestNilReader(t *testing.T) {
	var r *Reader
	for _, n := range append([]int{0, 1, 8, 16}, wrongCounts...) {
		if v, e := r.Bits(n); v != 0 || e != api.ErrArg {
			t.Errorf("Bits(%d) of nil = %d, %d", n, v, e)
		}
	}
	if n, v := r.Align(); n != 0 || v != 0 {
		t.Errorf("Align of nil = %d, %d", n, v)
	}
	if code, ok := r.Marker(); code != 0 || ok || r.Skip() || r.At() != 0 {
		t.Errorf("of nil: Marker = %d, %v, At %d", code, ok, r.At())
	}
}

func TestReadersOfOneText(t *testing.T) {
	text := "\x12\x34\xff\xd0"
	r, m := start(t, text, 0)
	other, otherM := start(t, text, 0)
	bitsAlike(t, r, m, 11)
	stands(t, other, otherM)
	bitsAlike(t, other, otherM, 3)
	bitsAlike(t, r, m, 5)
	m = skipAlike(t, r, m)
	stands(t, other, otherM)
	bitsAlike(t, other, otherM, 13)
	stands(t, r, m)
}

func TestAllShortTexts(t *testing.T) {
	const align, skip = 19, 21
	ways := [][]byte{
		{2, align, skip, 9, 9, 9, skip, 1, 18, 0},
		{9, 9, 9, skip, 9, skip, 9, skip, 9, skip, 9},
		{4, 17, 17, 9, 3, align, skip, 6, 17, skip, align, 2, 2},
		{17, 17, 9, 2, skip, 4, skip, 4, skip},
		{skip, 2, skip, 2, skip, 2, skip, 2, skip, 2},
	}
	for _, text := range texts("\x00\x01\xa5\xfe\xff", 5) {
		for at := range len(text) + 1 {
			for _, steps := range ways {
				readAlike(t, text, at, steps)
			}
		}
	}
}

func TestMixedTexts(t *testing.T) {
	// The numbers come from a seed that is always the same: so do the answers.
	mix := rand.New(rand.NewPCG(3, 1))
	for range 3000 {
		text := make([]byte, mix.IntN(40))
		for i := range text {
			text[i] = byte(mix.IntN(256))
			if mix.IntN(3) == 0 {
				text[i] = []byte{0xff, 0x00, 0xd0, 0xff}[mix.IntN(4)]
			}
		}
		steps := make([]byte, 60)
		for i := range steps {
			steps[i] = byte(mix.IntN(24))
		}
		readAlike(t, string(text), mix.IntN(4), steps)
	}
}

// Promise 3.2: markers.

func TestMarkerOfAllCodes(t *testing.T) {
	for code := range 256 {
		for _, ffs := range []string{"", "\xff", "\xff\xff", "\xff\xff\xff\xff\xff\xff\xff\xff"} {
			for _, ahead := range []string{"", "\x2d", "\xff\x00"} {
				for _, behind := range []string{"", "\x9c", "\xff"} {
					text := ahead + ffs + string([]byte{byte(code)}) + behind
					for begun := range 9 {
						r, m := start(t, text, 0)
						bitsAlike(t, r, m, begun)
						m = skipAlike(t, r, m)
						bitsAlike(t, r, m, 8)
						alignAlike(t, r, m)
					}
				}
			}
		}
	}
}

func TestMarkerBehindABegunByte(t *testing.T) {
	for begun := 1; begun <= 8; begun++ {
		r := NewReader("\x53\xff\xff\xd7\xc0\xff\xd9", 0)
		r.Bits(begun)
		if code, ok := r.Marker(); code != 0xd7 || !ok || r.At() != 1 {
			t.Fatalf("%d bits read: Marker = %x, %v, At %d", begun, code, ok, r.At())
		}
		// That a marker was asked for reads nothing.
		if v, e := r.Bits(8 - begun); v != 0x53&(1<<(8-begun)-1) || e != api.OK {
			t.Fatalf("%d bits read: the others are %x, %d", begun, v, e)
		}
		if !r.Skip() || r.At() != 4 {
			t.Fatalf("%d bits read: At %d behind Skip", begun, r.At())
		}
		if r.Skip() || r.At() != 4 {
			t.Fatalf("%d bits read: a second Skip", begun)
		}
		if v, e := r.Bits(2); v != 3 || e != api.OK {
			t.Fatalf("%d bits read: %x, %d behind Skip", begun, v, e)
		}
		// What is left of the byte goes with the marker.
		if !r.Skip() || r.At() != 7 || r.Skip() {
			t.Fatalf("%d bits read: At %d behind the second marker", begun, r.At())
		}
		if n, v := r.Align(); n != 0 || v != 0 {
			t.Fatalf("%d bits read: Align behind a marker = %d, %x", begun, n, v)
		}
	}
}

func TestNoMarkerAheadOfData(t *testing.T) {
	r := NewReader("\x53\x54\xff\xd0", 0)
	r.Bits(4)
	if code, ok := r.Marker(); code != 0 || ok || r.Skip() || r.At() != 1 {
		t.Errorf("a marker ahead of a byte: %x, %v, At %d", code, ok, r.At())
	}
	if n, v := r.Align(); n != 4 || v != 3 {
		t.Errorf("Align behind a Skip of nothing = %d, %x", n, v)
	}
}

func TestLongRunOfFfs(t *testing.T) {
	ffs := strings.Repeat("\xff", 1<<20)
	r := NewReader(ffs+"\xd9", 0)
	if code, ok := r.Marker(); code != 0xd9 || !ok || !r.Skip() || r.At() != 1<<20+1 {
		t.Errorf("Marker = %x, %v, At %d", code, ok, r.At())
	}
	for _, end := range []string{"", "\x00", "\x00\xd9"} {
		r := NewReader(ffs+end, 0)
		if code, ok := r.Marker(); code != 0 || ok || r.Skip() || r.At() != 0 {
			t.Errorf("ffs and %x: Marker = %x, %v, At %d", end, code, ok, r.At())
		}
		if _, e := r.Bits(1); e != api.ErrShort {
			t.Errorf("ffs and %x: Bits(1) = %d", end, e)
		}
	}
}

// Promise 3.3: bits are put.

// penned is a writer told another way: the bytes up to the last marker, and
// the bits behind it spelt out as digits.
type penned struct {
	done   string
	digits string
}

func (m *penned) bytes() string {
	digits := m.digits
	for len(digits)%8 != 0 {
		digits += "1"
	}
	var out strings.Builder
	out.WriteString(m.done)
	for i := 0; i < len(digits); i += 8 {
		b, _ := strconv.ParseUint(digits[i:i+8], 2, 8)
		out.WriteByte(byte(b))
		if b == 0xff {
			out.WriteByte(0)
		}
	}
	return out.String()
}

// written fails the test, if a writer doesn't have what its model has.
func written(t *testing.T, w *Writer, m *penned) {
	t.Helper()
	want := m.bytes()
	for range 2 {
		if s := w.Bytes(); s != want || w.Len() != len(m.digits) {
			t.Fatalf("behind %x and %s: Bytes = %x, Len %d, want %x, %d", m.done, m.digits, s, w.Len(), want, len(m.digits))
		}
	}
}

func putAlike(t *testing.T, w *Writer, m *penned, v, n int) {
	t.Helper()
	want := api.OK
	if n < 0 || n > 16 {
		want = api.ErrArg
	} else if v < 0 || v >= 1<<n {
		want = api.ErrLarge
	} else if n > 0 {
		m.digits += fmt.Sprintf("%0*b", n, v)
	}
	if e := w.Put(v, n); e != want {
		t.Fatalf("Put(%d, %d) = %d, want %d", v, n, e, want)
	}
	written(t, w, m)
}

func markAlike(t *testing.T, w *Writer, m *penned, code int) {
	t.Helper()
	want := api.OK
	if code < 1 || code > 254 {
		want = api.ErrArg
	} else {
		m.done, m.digits = m.bytes()+"\xff"+string([]byte{byte(code)}), ""
	}
	if e := w.Mark(code); e != want {
		t.Fatalf("Mark(%d) = %d, want %d", code, e, want)
	}
	written(t, w, m)
}

func TestExample(t *testing.T) {
	w := NewWriter()
	if e, f := w.Put(1, 1), w.Put(127, 7); e != api.OK || f != api.OK || w.Bytes() != "\xff\x00" {
		t.Errorf("Put(1, 1), Put(127, 7): %d, %d, %x", e, f, w.Bytes())
	}
	w = NewWriter()
	if e := w.Put(5, 3); e != api.OK || w.Bytes() != "\xbf" {
		t.Errorf("Put(5, 3): %d, %x", e, w.Bytes())
	}
}

func TestNewWriterIsEmpty(t *testing.T) {
	w, m := NewWriter(), &penned{}
	written(t, w, m)
	putAlike(t, w, m, 0, 0)
	markAlike(t, w, m, 1)
	written(t, NewWriter(), &penned{})
}

func TestPutNearEdges(t *testing.T) {
	for begun := range 9 {
		for n := range 17 {
			for _, v := range []int{math.MinInt, -1 << 32, -65536, -1, 0, 1, 1<<n - 2, 1<<n - 1, 1 << n, 1<<n + 1, 65535, 65536, 1 << 32, math.MaxInt} {
				w, m := NewWriter(), &penned{}
				putAlike(t, w, m, 1<<begun-1, begun)
				putAlike(t, w, m, v, n)
				putAlike(t, w, m, 2, 3)
				markAlike(t, w, m, 0xd0)
				putAlike(t, w, m, v, n)
			}
		}
	}
}

func TestWriterRefusesCounts(t *testing.T) {
	for _, n := range wrongCounts {
		for _, v := range []int{0, 1, -1, 65536, math.MaxInt, math.MinInt} {
			for begun := range 8 {
				w, m := NewWriter(), &penned{}
				putAlike(t, w, m, 0, begun)
				putAlike(t, w, m, v, n)
				putAlike(t, w, m, 1, 2)
			}
		}
	}
}

func TestMarkOfAllCodes(t *testing.T) {
	codes := []int{math.MinInt, -256, -46, -1, 256, 257, 464, 0xffd0, math.MaxInt}
	for code := range 256 {
		codes = append(codes, code)
	}
	for _, code := range codes {
		for begun := range 9 {
			for _, v := range []int{0, 1<<begun - 1} {
				w, m := NewWriter(), &penned{}
				putAlike(t, w, m, v, begun)
				markAlike(t, w, m, code)
				markAlike(t, w, m, code)
				putAlike(t, w, m, 1, 5)
			}
		}
	}
}

func TestFilledFfIsData(t *testing.T) {
	for n := 1; n <= 8; n++ {
		w := NewWriter()
		w.Put(1<<n-1, n)
		if s := w.Bytes(); s != "\xff\x00" {
			t.Errorf("%d bits of 1: %x", n, s)
		}
		w.Mark(0xd1)
		if s := w.Bytes(); s != "\xff\x00\xff\xd1" {
			t.Errorf("%d bits of 1 and a marker: %x", n, s)
		}
	}
}

func TestBytesIsACopy(t *testing.T) {
	w, m := NewWriter(), &penned{}
	var answers, wants []string
	for i := range 200 {
		putAlike(t, w, m, i%8, 3)
		answers, wants = append(answers, w.Bytes()), append(wants, strings.Clone(m.bytes()))
		if i%37 == 36 {
			markAlike(t, w, m, 0xd0+i%8)
		}
	}
	for i, s := range answers {
		if s != wants[i] {
			t.Errorf("the answer %d became %x, it was %x", i, s, wants[i])
		}
	}
}

func TestNilWriter(t *testing.T) {
	var w *Writer
	for _, n := range append([]int{0, 1, 16}, wrongCounts...) {
		for _, v := range []int{0, 1, -1, 65536} {
			if e := w.Put(v, n); e != api.ErrArg {
				t.Errorf("Put(%d, %d) of nil = %d", v, n, e)
			}
		}
	}
	for _, code := range []int{-1, 0, 1, 0xd0, 254, 255} {
		if e := w.Mark(code); e != api.ErrArg {
			t.Errorf("Mark(%d) of nil = %d", code, e)
		}
	}
	if w.Bytes() != "" || w.Len() != 0 {
		t.Errorf("of nil: Bytes = %x, Len %d", w.Bytes(), w.Len())
	}
}

func TestWritersApart(t *testing.T) {
	w, m := NewWriter(), &penned{}
	other, otherM := NewWriter(), &penned{}
	putAlike(t, w, m, 0x155, 9)
	written(t, other, otherM)
	putAlike(t, other, otherM, 0, 13)
	written(t, w, m)
	markAlike(t, other, otherM, 0xd0)
	putAlike(t, w, m, 3, 2)
	written(t, other, otherM)
}

// Promise 3.4: there and back.

// ended fails the test, if more is left than the 1s that fill a byte, and
// another marker comes (0 of none) than that of the code.
func ended(t *testing.T, r *Reader, code int) {
	t.Helper()
	if n, v := r.Align(); v != 1<<n-1 {
		t.Fatalf("a byte is filled with %x in %d bits", v, n)
	}
	if v, e := r.Bits(1); e != api.ErrShort {
		t.Fatalf("a bit more: %d, %d", v, e)
	}
	if got, ok := r.Marker(); got != code || ok != (code != 0) || r.Skip() != ok {
		t.Fatalf("the marker %x, %v, want %x", got, ok, code)
	}
}

func TestAllNumbersAtAllPlaces(t *testing.T) {
	for begun := range 8 {
		for n := range 17 {
			for v := range 1 << n {
				w := NewWriter()
				if e := w.Put(1<<begun-1, begun); e != api.OK {
					t.Fatalf("Put = %d", e)
				}
				if e := w.Put(v, n); e != api.OK || w.Len() != begun+n {
					t.Fatalf("Put(%d, %d) = %d, Len %d", v, n, e, w.Len())
				}
				s := w.Bytes()
				r := NewReader(s, 0)
				r.Bits(begun)
				if got, e := r.Bits(n); got != v || e != api.OK {
					t.Fatalf("%d in %d bits behind %d is read as %d, %d", v, n, begun, got, e)
				}
				ended(t, r, 0)
				if r.At() != len(s) {
					t.Fatalf("%x is left behind the place %d", s, r.At())
				}
			}
		}
	}
}

// again puts what bytes tell, three a step, and fails the test, if it isn't read again.
func again(t *testing.T, steps []byte) {
	t.Helper()
	type step struct{ v, n, code int }
	w, m := NewWriter(), &penned{}
	var all []step
	for ; len(steps) >= 3; steps = steps[3:] {
		x := step{n: int(steps[0]) % 17, v: int(steps[1])<<8 | int(steps[2])}
		x.v &= 1<<x.n - 1
		if steps[0] >= 0xe0 {
			x = step{code: int(steps[1])%254 + 1}
			markAlike(t, w, m, x.code)
		} else {
			putAlike(t, w, m, x.v, x.n)
		}
		all = append(all, x)
	}
	s := w.Bytes()
	r := NewReader(s, 0)
	for i, x := range all {
		if x.code != 0 {
			ended(t, r, x.code)
		} else if v, e := r.Bits(x.n); v != x.v || e != api.OK {
			t.Fatalf("%x is read as %x, %d, as the step %d: want %x in %d bits", s, v, e, i, x.v, x.n)
		}
	}
	ended(t, r, 0)
	if r.At() != len(s) {
		t.Fatalf("%x is left behind the place %d", s, r.At())
	}
}

func TestMixedBitsAndMarkers(t *testing.T) {
	mix := rand.New(rand.NewPCG(3, 4))
	for range 1500 {
		steps := make([]byte, 3*mix.IntN(50))
		for i := range steps {
			steps[i] = byte(mix.IntN(256))
			if mix.IntN(3) == 0 {
				steps[i] = 0xff
			}
		}
		again(t, steps)
	}
}

func TestMarkerByMarker(t *testing.T) {
	w := NewWriter()
	for code := 1; code <= 254; code++ {
		w.Put(code, 8)
		w.Put(1, 1+code%7)
		w.Mark(code)
	}
	r := NewReader(w.Bytes(), 0)
	for code := 1; code <= 254; code++ {
		if v, e := r.Bits(8); v != code || e != api.OK {
			t.Fatalf("ahead of the marker %x: %x, %d", code, v, e)
		}
		if v, e := r.Bits(1 + code%7); v != 1 || e != api.OK {
			t.Fatalf("ahead of the marker %x: %x, %d", code, v, e)
		}
		ended(t, r, code)
	}
	ended(t, r, 0)
}

func FuzzReader(f *testing.F) {
	f.Add("x\xa5\xff\x00\x0f\xff\xff\xd3\x80\xff", 1, []byte{4, 1, 8, 7, 4, 7, 19, 21, 9, 21, 18})
	f.Add("\xff\xff\x00\xff\xd0", -1, []byte{2, 21, 19})
	f.Add("\x12\xff\x00\xff\xd0\x34", 0, []byte{3, 21, 17, 9, 21, 9})
	f.Fuzz(func(t *testing.T, text string, at int, steps []byte) {
		if len(text) < 1<<10 && len(steps) < 1<<10 {
			readAlike(t, text, at, steps)
		}
	})
}

func FuzzWriter(f *testing.F) {
	f.Add([]byte{1, 0, 1, 7, 0, 127, 0xe0, 0xd0, 0, 3, 0, 5})
	f.Add([]byte{16, 0xff, 0xff, 0xe0, 1, 1, 0xe0, 2, 2, 5, 0xff, 0xff})
	f.Fuzz(func(t *testing.T, steps []byte) {
		if len(steps) < 1<<10 {
			again(t, steps)
		}
	})
}
