package huff

import (
	"fmt"
	"math"
	"math/rand/v2"
	"strconv"
	"strings"
	"testing"

	"aquatint/api"
	"aquatint/bits"
)

// outside are numbers that are no symbol, whatever the table.
var outside = []int{math.MinInt, math.MinInt + 1, math.MinInt32, -1 << 32, -256, -255, -2, -1,
	256, 257, 258, 511, 512, 1 << 16, 1 << 32, 1<<32 + 1, math.MaxInt32, math.MaxInt - 1, math.MaxInt}

// spelt is a table told another way: each code as digits, in the order of the
// symbols; false, if a code is 1s alone, or more than its length has room for.
func spelt(counts [16]uint8) ([]string, bool) {
	var codes []string
	next, long := 0, 0
	for n, count := range counts {
		for range count {
			for long < n+1 {
				next, long = next*2, long+1
			}
			if next >= 1<<long-1 {
				return nil, false
			}
			codes = append(codes, fmt.Sprintf("%0*b", long, next))
			next++
		}
	}
	return codes, true
}

// right tells another way whether that is a right table.
func right(counts [16]uint8, symbols string) bool {
	codes, ok := spelt(counts)
	for i := range len(symbols) {
		if strings.Count(symbols, symbols[i:i+1]) > 1 {
			return false
		}
	}
	return ok && len(codes) == len(symbols) && len(codes) >= 1 && len(codes) <= 256
}

// rising are so many bytes from a first one on, round and round.
func rising(first, n int) string {
	var b strings.Builder
	for i := range n {
		b.WriteByte(byte(first + i))
	}
	return b.String()
}

// sum is how many codes there are.
func sum(counts [16]uint8) int {
	n := 0
	for _, count := range counts {
		n += int(count)
	}
	return n
}

// made is a table that must be right.
func made(t *testing.T, counts [16]uint8, symbols string) *Table {
	t.Helper()
	x, e := New(counts, symbols)
	if x == nil || e != api.OK {
		t.Fatalf("New(%v, %x) = %p, %d", counts, symbols, x, e)
	}
	return x
}

// refused fails the test, if something is taken for a right table.
func refused(t *testing.T, counts [16]uint8, symbols string) {
	t.Helper()
	if x, e := New(counts, symbols); x != nil || e != api.ErrTable {
		t.Fatalf("New(%v, %x) = %p, %d, want ErrTable", counts, symbols, x, e)
	}
}

// digits is a code as digits 0 and 1.
func digits(code, n int) string {
	if n == 0 {
		return ""
	}
	return fmt.Sprintf("%0*b", n, code)
}

// data is digits as a scan's data, its end filled with 1s.
func data(t *testing.T, all string) string {
	t.Helper()
	w := bits.NewWriter()
	for _, c := range all {
		if e := w.Put(int(c-'0'), 1); e != api.OK {
			t.Fatal(e)
		}
	}
	return w.Bytes()
}

// codesAlike fails the test, if a table's codes aren't those of its model, or other symbols have some.
func codesAlike(t *testing.T, x *Table, counts [16]uint8, symbols string) {
	t.Helper()
	if x.Counts() != counts || x.Symbols() != symbols {
		t.Fatalf("made of %v, %x: it tells %v, %x", counts, symbols, x.Counts(), x.Symbols())
	}
	codes, _ := spelt(counts)
	for s := -1; s <= 257; s++ {
		at := -1
		if s >= 0 && s <= 255 {
			at = strings.IndexByte(symbols, byte(s))
		}
		code, n, ok := x.Code(s)
		if at < 0 && (code != 0 || n != 0 || ok) {
			t.Fatalf("%v, %x: Code(%d) = %b, %d, %v, want none", counts, symbols, s, code, n, ok)
		}
		if at >= 0 && (digits(code, n) != codes[at] || !ok) {
			t.Fatalf("%v, %x: Code(%d) = %b, %d, %v, want %s", counts, symbols, s, code, n, ok, codes[at])
		}
	}
}

// newAlike makes a table or doesn't, as the model has it.
func newAlike(t *testing.T, counts [16]uint8, symbols string) *Table {
	t.Helper()
	if !right(counts, symbols) {
		refused(t, counts, symbols)
		return nil
	}
	x := made(t, counts, symbols)
	codesAlike(t, x, counts, symbols)
	return x
}

// mixed is a right table from a seed that is always the same: codes are taken
// from what room there is, the symbols in any order.
func mixed(mix *rand.Rand) ([16]uint8, string) {
	for {
		var counts [16]uint8
		room, all := 1, 0
		for n := range counts {
			room *= 2
			take := 0
			if most := min(room-1, 255, 256-all); most > 0 && mix.IntN(3) > 0 {
				take = mix.IntN(min(most, 1+mix.IntN(256))) + mix.IntN(2)
			}
			counts[n] = uint8(take)
			room, all = room-take, all+take
		}
		if all > 0 {
			return counts, shuffled(mix, all)
		}
	}
}

// shuffled are so many symbols, no one twice.
func shuffled(mix *rand.Rand, n int) string {
	var b strings.Builder
	for _, s := range mix.Perm(256)[:n] {
		b.WriteByte(byte(s))
	}
	return b.String()
}

// edges are right tables at the ends of what may be.
func edges() map[string][16]uint8 {
	var chain [16]uint8
	for n := range chain {
		chain[n] = 1
	}
	return map[string][16]uint8{
		"one code of one bit":       {1},
		"one code of two bits":      {0, 1},
		"one code of 16 bits":       {15: 1},
		"two of 16 bits":            {15: 2},
		"255 of 16 bits":            {15: 255},
		"255 of 8 bits":             {7: 255},
		"256, one of 9 bits":        {7: 255, 8: 1},
		"256, one of 16 bits":       {7: 255, 15: 1},
		"256 of 15 and 16 bits":     {14: 255, 15: 1},
		"256, half of 16 bits":      {14: 128, 15: 128},
		"three of two bits":         {0, 3},
		"a chain of all lengths":    chain,
		"one of one, 255 others":    {0: 1, 15: 255},
		"256 of three lengths":      {1: 3, 9: 127, 10: 126},
		"the example of chapter 5":  {0, 1, 5, 1},
		"the least and the longest": {0: 1, 15: 1},
	}
}

// Promise 5.1: tables, and what they are made of.

func TestExample(t *testing.T) {
	x := made(t, [16]uint8{0, 1, 5, 1}, "\x00\x01\x02\x03\x04\x05\x06")
	for s, want := range map[int]string{0: "00", 1: "010", 2: "011", 3: "100", 4: "101", 5: "110", 6: "1110"} {
		if code, n, ok := x.Code(s); digits(code, n) != want || !ok {
			t.Errorf("Code(%d) = %b, %d, %v, want %s", s, code, n, ok, want)
		}
	}
	if n, b := Shorten(-3); n != 2 || b != 0 {
		t.Errorf("Shorten(-3) = %d, %d, want 2, 0", n, b)
	}
	if v := Extend(0, 2); v != -3 {
		t.Errorf("Extend(0, 2) = %d, want -3", v)
	}
}

// The table that most files have for the other coefficients of their brightness, with codes as T.81 prints them.
func TestCodesOfAKnownTable(t *testing.T) {
	counts := [16]uint8{0, 2, 1, 3, 3, 2, 4, 3, 5, 5, 4, 4, 0, 0, 1, 125}
	symbols := "\x01\x02\x03\x00\x04\x11\x05\x12\x21\x31\x41\x06\x13\x51\x61\x07\x22\x71\x14\x32\x81\x91\xa1\x08\x23\x42\xb1\xc1\x15\x52\xd1\xf0" +
		"\x24\x33\x62\x72\x82\x09\x0a\x16\x17\x18\x19\x1a\x25\x26\x27\x28\x29\x2a\x34\x35\x36\x37\x38\x39\x3a\x43\x44\x45\x46\x47\x48\x49\x4a" +
		"\x53\x54\x55\x56\x57\x58\x59\x5a\x63\x64\x65\x66\x67\x68\x69\x6a\x73\x74\x75\x76\x77\x78\x79\x7a\x83\x84\x85\x86\x87\x88\x89\x8a" +
		"\x92\x93\x94\x95\x96\x97\x98\x99\x9a\xa2\xa3\xa4\xa5\xa6\xa7\xa8\xa9\xaa\xb2\xb3\xb4\xb5\xb6\xb7\xb8\xb9\xba\xc2\xc3\xc4\xc5\xc6\xc7\xc8\xc9\xca" +
		"\xd2\xd3\xd4\xd5\xd6\xd7\xd8\xd9\xda\xe1\xe2\xe3\xe4\xe5\xe6\xe7\xe8\xe9\xea\xf1\xf2\xf3\xf4\xf5\xf6\xf7\xf8\xf9\xfa"
	x := newAlike(t, counts, symbols)
	for s, want := range map[int]string{0x01: "00", 0x02: "01", 0x03: "100", 0x00: "1010", 0x04: "1011", 0x11: "1100", 0x05: "11010",
		0x21: "11100", 0x06: "1111000", 0x07: "11111000", 0xf0: "11111111001", 0x82: "111111111000000", 0x09: "1111111110000010",
		0x0a: "1111111110000011", 0xfa: "1111111111111110"} {
		if code, n, ok := x.Code(s); digits(code, n) != want || !ok {
			t.Errorf("Code(%x) = %b, %d, %v, want %s", s, code, n, ok, want)
		}
	}
}

func TestEdges(t *testing.T) {
	for name, counts := range edges() {
		codes, ok := spelt(counts)
		if !ok || len(codes) > 256 {
			t.Fatalf("%s is no right table", name)
		}
		for _, first := range []int{0, 1, 100, 255} {
			newAlike(t, counts, rising(first, len(codes)))
		}
	}
}

func TestAllShortCounts(t *testing.T) {
	taken, left := 0, 0
	for a := range 4 {
		for b := range 6 {
			for c := range 10 {
				for d := range 18 {
					counts := [16]uint8{uint8(a), uint8(b), uint8(c), uint8(d)}
					if newAlike(t, counts, rising(7, a+b+c+d)) == nil {
						left++
					} else {
						taken++
					}
				}
			}
		}
	}
	if taken == 0 || left == 0 {
		t.Errorf("%d right tables, %d others", taken, left)
	}
}

// Of each length: the most codes that there may be, and one more.
func TestCodesOfOnes(t *testing.T) {
	for ahead := range 16 {
		var counts [16]uint8
		for n := range ahead {
			counts[n] = 1
		}
		// One code of each shorter length leaves room for two of this one, and one of these is 1s alone.
		counts[ahead] = 1
		newAlike(t, counts, rising(0, ahead+1))
		made(t, counts, rising(0, ahead+1))
		counts[ahead] = 2
		refused(t, counts, rising(0, ahead+2))
		counts[ahead] = 3
		refused(t, counts, rising(0, ahead+3))
	}
	for n := range 8 {
		var counts [16]uint8
		most := 1<<(n+1) - 1
		counts[n] = uint8(most)
		made(t, counts, rising(0, most))
		if most < 255 {
			counts[n]++
			refused(t, counts, rising(0, most+1))
		}
	}
}

// A code that may not be stands ahead of others that would be right by themselves.
func TestCodesOfOnesAhead(t *testing.T) {
	for n := range 15 {
		var counts [16]uint8
		for i := range n {
			counts[i] = 1
		}
		counts[n] = 2
		for later := n + 1; later < 16; later++ {
			more := counts
			more[later] = 1
			refused(t, more, rising(0, n+3))
		}
	}
	refused(t, [16]uint8{255, 1}, rising(0, 256))
	refused(t, [16]uint8{2, 1}, rising(0, 3))
}

func TestNoSymbols(t *testing.T) {
	refused(t, [16]uint8{}, "")
	refused(t, [16]uint8{}, "a")
	refused(t, [16]uint8{1}, "")
	refused(t, [16]uint8{15: 255}, "")
}

func TestOtherNumberOfSymbols(t *testing.T) {
	for _, counts := range edges() {
		n := sum(counts)
		for _, other := range []int{0, n - 1, n + 1, n + 16, n + 256, 256, 257, 512} {
			if other != n {
				refused(t, counts, rising(0, other))
			}
		}
	}
}

func TestTooManySymbols(t *testing.T) {
	for _, counts := range [][16]uint8{{7: 255, 15: 2}, {14: 255, 15: 2}, {13: 2, 14: 255}, {13: 255, 14: 255, 15: 255}, {12: 1, 15: 255, 14: 1}} {
		n := sum(counts)
		if _, ok := spelt(counts); !ok {
			t.Fatalf("%v has codes that may not be", counts)
		}
		for _, symbols := range []string{rising(0, n), rising(0, n-256), rising(0, 256), ""} {
			refused(t, counts, symbols)
		}
	}
	all := [16]uint8{}
	for n := range all {
		all[n] = 255
	}
	refused(t, all, rising(0, 16*255))
	refused(t, all, rising(0, 256))
	refused(t, [16]uint8{1}, strings.Repeat("abc", 1<<20))
}

func TestSymbolsThatStandTwice(t *testing.T) {
	counts := [16]uint8{3: 8, 4: 12}
	for i := range 20 {
		for j := range 20 {
			symbols := []byte(rising(250, 20))
			symbols[i] = symbols[j]
			if x, e := New(counts, string(symbols)); (e == api.OK) != (i == j) || (x == nil) == (e == api.OK) {
				t.Fatalf("with the symbol %d at %d, too: New = %p, %d", j, i, x, e)
			}
		}
	}
	for s := range 256 {
		refused(t, [16]uint8{0, 2}, string([]byte{byte(s), byte(s)}))
	}
}

func TestMixedTables(t *testing.T) {
	mix := rand.New(rand.NewPCG(5, 1))
	for range 500 {
		counts, symbols := mixed(mix)
		made(t, counts, symbols)
		newAlike(t, counts, symbols)
		// The next thing to it may be right or not.
		counts[mix.IntN(16)]++
		newAlike(t, counts, symbols)
		newAlike(t, counts, shuffled(mix, min(sum(counts), 256)))
	}
}

func TestNoCodes(t *testing.T) {
	x := made(t, [16]uint8{7: 255, 8: 1}, rising(0, 256))
	y := made(t, [16]uint8{0, 3}, "\x00\x01\xff")
	for _, s := range outside {
		for _, z := range []*Table{x, y, nil} {
			if code, n, ok := z.Code(s); code != 0 || n != 0 || ok {
				t.Errorf("Code(%d) = %b, %d, %v", s, code, n, ok)
			}
		}
	}
	for s := 2; s < 255; s++ {
		if code, n, ok := y.Code(s); code != 0 || n != 0 || ok {
			t.Errorf("Code(%d) = %b, %d, %v", s, code, n, ok)
		}
	}
	// The code 0 is one, too.
	if code, n, ok := y.Code(0); code != 0 || n != 2 || !ok {
		t.Errorf("Code(0) = %b, %d, %v", code, n, ok)
	}
}

func TestNilTable(t *testing.T) {
	var x *Table
	if x.Counts() != [16]uint8{} || x.Symbols() != "" {
		t.Errorf("nil tells %v, %x", x.Counts(), x.Symbols())
	}
	for s := range 256 {
		if code, n, ok := x.Code(s); code != 0 || n != 0 || ok {
			t.Errorf("Code(%d) = %b, %d, %v", s, code, n, ok)
		}
	}
}

func TestCountsAreNotShared(t *testing.T) {
	counts := [16]uint8{0, 1, 5, 1}
	x := made(t, counts, rising(0, 7))
	counts[1] = 9
	out := x.Counts()
	out[2] = 9
	codesAlike(t, x, [16]uint8{0, 1, 5, 1}, rising(0, 7))
}

// Promise 5.2: symbols are read and put.

// nextAlike reads a symbol at a place of a byte, and fails the test, if that isn't what the digits and the table's codes tell.
func nextAlike(t *testing.T, x *Table, codes []string, begun int, all string) {
	t.Helper()
	want, long, wantE := 0, 0, api.ErrShort
	if len(all) >= 16 {
		wantE = api.ErrCode
	}
	for i, code := range codes {
		if strings.HasPrefix(all, code) {
			want, long, wantE = int(x.Symbols()[i]), len(code), api.OK
		}
	}
	// Behind the digits the data ends at once: what fills their last byte would be read as bits.
	if (begun+len(all))%8 != 0 {
		t.Fatalf("%d and %d digits are no whole bytes", begun, len(all))
	}
	r := bits.NewReader(data(t, strings.Repeat("0", begun)+all), 0)
	if _, e := r.Bits(begun); e != api.OK {
		t.Fatal(e)
	}
	s, e := x.Next(r)
	if s != want || e != wantE {
		t.Fatalf("of %v: Next of %s = %d, %d, want %d, %d", x.Counts(), all, s, e, want, wantE)
	}
	if e == api.OK {
		for i, c := range all[long:] {
			if bit, e := r.Bits(1); bit != int(c-'0') || e != api.OK {
				t.Fatalf("behind Next of %s: the bit %d is %d, %d", all, long+i, bit, e)
			}
		}
		if _, e := r.Bits(1); e != api.ErrShort {
			t.Fatalf("behind %s: %d", all, e)
		}
	}
}

// whole is digits with as many 1s or 0s behind them as the last byte has room for.
func whole(begun int, all, fill string) string {
	return all + strings.Repeat(fill, (16-(begun+len(all))%8)%8)
}

func TestNextOfAllBits(t *testing.T) {
	tables := []*Table{
		made(t, [16]uint8{0, 1, 5, 1, 1, 1, 1, 1, 1}, rising(0, 12)),
		made(t, [16]uint8{0, 2, 1, 3, 3, 2, 4, 3, 5, 5, 4, 4, 0, 0, 1, 125}, rising(40, 162)),
		made(t, [16]uint8{15: 255}, rising(3, 255)),
	}
	for _, x := range tables {
		codes, _ := spelt(x.Counts())
		for v := range 1 << 16 {
			nextAlike(t, x, codes, 0, digits(v, 16))
		}
	}
}

func TestNextOfAllBytes(t *testing.T) {
	for _, counts := range edges() {
		x := made(t, counts, rising(200, sum(counts)))
		codes, _ := spelt(counts)
		nextAlike(t, x, codes, 0, "")
		for v := range 256 {
			nextAlike(t, x, codes, 0, digits(v, 8))
		}
	}
}

func TestNextOfAllCodes(t *testing.T) {
	for _, counts := range edges() {
		x := made(t, counts, rising(9, sum(counts)))
		codes, _ := spelt(counts)
		for _, code := range codes {
			for begun := range 8 {
				nextAlike(t, x, codes, begun, whole(begun, code, "0"))
				nextAlike(t, x, codes, begun, whole(begun, code, "1"))
			}
		}
	}
}

func TestNextOfMixedTables(t *testing.T) {
	mix := rand.New(rand.NewPCG(5, 2))
	for range 300 {
		counts, symbols := mixed(mix)
		x := made(t, counts, symbols)
		codes, _ := spelt(counts)
		for range 100 {
			begun := mix.IntN(8)
			nextAlike(t, x, codes, begun, whole(begun, digits(mix.IntN(1<<20), 20), "1"))
		}
	}
}

// short fails the test, if a symbol is read of too few bits.
func short(t *testing.T, x *Table, s string, skip int) {
	t.Helper()
	r := bits.NewReader(s, 0)
	for n := skip; n > 0; n -= min(n, 16) {
		if _, e := r.Bits(min(n, 16)); e != api.OK {
			t.Fatal(e)
		}
	}
	if symbol, e := x.Next(r); symbol != 0 || e != api.ErrShort {
		t.Fatalf("Next of %x behind %d bits = %d, %d, want ErrShort", s, skip, symbol, e)
	}
}

// The bits end within a code, and within 16 bits that are none: at the text's end, and at whatever else ends the data.
func TestNextOfTooFewBits(t *testing.T) {
	x := made(t, [16]uint8{0, 1, 15: 1}, "\x07\x08")
	code, n, _ := x.Code(8)
	if n != 16 || code != 1<<14 {
		t.Fatalf("Code(8) = %b, %d", code, n)
	}
	for _, end := range []string{"", "\xff", "\xff\xff\xff", "\xff\xff\x00", "\xff\xd0\x00\x00", "\xff\xd9", "\xff\xff\x01\x00"} {
		for few := range 16 {
			for _, d := range []string{digits(code, 16), strings.Repeat("1", 16)} {
				skip := (16 - few) % 8
				short(t, x, data(t, strings.Repeat("0", skip)+d[:few])+end, skip)
			}
		}
	}
}

func TestNextOfNoCode(t *testing.T) {
	ones := "\xff\x00\xff\x00"
	for name, counts := range edges() {
		x := made(t, counts, rising(0, sum(counts)))
		if s, e := x.Next(bits.NewReader(ones, 0)); s != 0 || e != api.ErrCode {
			t.Errorf("%s: Next of 16 bits of 1 = %d, %d, want ErrCode", name, s, e)
		}
		// What comes behind the 16 bits isn't asked.
		for _, more := range []string{"\xff\xd0", "\xff", "\x00", "\xff\x00"} {
			if s, e := x.Next(bits.NewReader(ones+more, 0)); s != 0 || e != api.ErrCode {
				t.Errorf("%s: Next of %x = %d, %d, want ErrCode", name, ones+more, s, e)
			}
		}
	}
}

func TestNextOfNil(t *testing.T) {
	x := made(t, [16]uint8{1}, "a")
	var none *Table
	r := bits.NewReader("\x00", 0)
	if s, e := x.Next(nil); s != 0 || e != api.ErrArg {
		t.Errorf("Next of a nil reader = %d, %d", s, e)
	}
	if s, e := none.Next(r); s != 0 || e != api.ErrArg || r.At() != 0 {
		t.Errorf("Next on nil = %d, %d, at %d", s, e, r.At())
	}
	if s, e := none.Next(nil); s != 0 || e != api.ErrArg {
		t.Errorf("Next on nil of nil = %d, %d", s, e)
	}
	if s, e := x.Next(r); s != 'a' || e != api.OK {
		t.Errorf("Next = %d, %d", s, e)
	}
}

func TestPutOfAll(t *testing.T) {
	for name, counts := range edges() {
		x := made(t, counts, rising(77, sum(counts)))
		codes, _ := spelt(counts)
		w, all := bits.NewWriter(), ""
		for i, code := range codes {
			if e := x.Put(w, int(x.Symbols()[i])); e != api.OK {
				t.Fatalf("%s: Put of the symbol %d = %d", name, i, e)
			}
			all += code
			if w.Len() != len(all) {
				t.Fatalf("%s: %d bits were put, want %d", name, w.Len(), len(all))
			}
		}
		if w.Bytes() != data(t, all) {
			t.Errorf("%s: %x, want %x", name, w.Bytes(), data(t, all))
		}
	}
}

func TestPutOfNoSymbol(t *testing.T) {
	x := made(t, [16]uint8{0, 3}, "\x00\x01\xff")
	w := bits.NewWriter()
	if e := x.Put(w, 1); e != api.OK {
		t.Fatal(e)
	}
	wrong := append([]int{2, 3, 100, 254}, outside...)
	for _, s := range wrong {
		if e := x.Put(w, s); e != api.ErrNone || w.Len() != 2 || w.Bytes() != "\x7f" {
			t.Errorf("Put of %d = %d, then %d bits, %x", s, e, w.Len(), w.Bytes())
		}
	}
	if e := x.Put(w, 255); e != api.OK || w.Bytes() != "\x6f" {
		t.Errorf("Put = %d, %x", e, w.Bytes())
	}
}

func TestPutOfNil(t *testing.T) {
	x := made(t, [16]uint8{1}, "a")
	var none *Table
	w := bits.NewWriter()
	for _, s := range []int{'a', 'b', -1, 256} {
		if e := x.Put(nil, s); e != api.ErrArg {
			t.Errorf("Put of %d to a nil writer = %d", s, e)
		}
		if e := none.Put(w, s); e != api.ErrArg || w.Len() != 0 {
			t.Errorf("Put of %d on nil = %d, %d bits", s, e, w.Len())
		}
		if e := none.Put(nil, s); e != api.ErrArg {
			t.Errorf("Put of %d on nil to nil = %d", s, e)
		}
	}
}

// Promise 5.3: numbers as bits.

func TestShortenOfAll(t *testing.T) {
	for v := -1 << 17; v <= 1<<17; v++ {
		wantN, want := 0, 0
		if amount := strconv.FormatInt(int64(max(v, -v)), 2); v != 0 && len(amount) < 16 {
			wantN, want = len(amount), v
			if v < 0 {
				// Below 0 each bit of the amount is turned round.
				turned := strings.NewReplacer("0", "1", "1", "0").Replace(amount)
				n, err := strconv.ParseInt(turned, 2, 64)
				if err != nil {
					t.Fatal(err)
				}
				want = int(n)
			}
		}
		if n, b := Shorten(v); n != wantN || b != want {
			t.Fatalf("Shorten(%d) = %d, %d, want %d, %d", v, n, b, wantN, want)
		}
	}
}

func TestShortenOfEdges(t *testing.T) {
	for v, want := range map[int][2]int{0: {0, 0}, 1: {1, 1}, -1: {1, 0}, 2: {2, 2}, -2: {2, 1}, 3: {2, 3}, -3: {2, 0}, 4: {3, 4}, -4: {3, 3},
		-7: {3, 0}, 1023: {10, 1023}, -1023: {10, 0}, 1024: {11, 1024}, -1024: {11, 1023}, -2047: {11, 0}, 16384: {15, 16384},
		32767: {15, 32767}, -32767: {15, 0}, 32768: {0, 0}, -32768: {0, 0}, 65535: {0, 0}, -65535: {0, 0}, 65536: {0, 0}, -65536: {0, 0}} {
		if n, b := Shorten(v); n != want[0] || b != want[1] {
			t.Errorf("Shorten(%d) = %d, %d, want %v", v, n, b, want)
		}
	}
	for _, v := range []int{math.MinInt, math.MinInt + 1, math.MinInt + 5, math.MinInt32, -1 << 32, -1<<32 - 5, -1<<48 + 1,
		1<<32 + 1, 1 << 48, 1 << 62, math.MaxInt32, math.MaxInt - 5, math.MaxInt} {
		if n, b := Shorten(v); n != 0 || b != 0 {
			t.Errorf("Shorten(%d) = %d, %d, want 0, 0", v, n, b)
		}
	}
}

func TestExtendOfAll(t *testing.T) {
	for n := -3; n <= 20; n++ {
		for v := -70; v <= 1<<17; v++ {
			want := 0
			if n >= 1 && n <= 15 && v >= 0 && v < 1<<n {
				want = v
				if d := digits(v, n); d[0] == '0' {
					want = v - (1<<n - 1)
				}
			}
			if x := Extend(v, n); x != want {
				t.Fatalf("Extend(%d, %d) = %d, want %d", v, n, x, want)
			}
		}
	}
}

func TestExtendOfEdges(t *testing.T) {
	for _, x := range []struct{ v, n, want int }{{0, 1, -1}, {1, 1, 1}, {2, 1, 0}, {0, 2, -3}, {1, 2, -2}, {2, 2, 2}, {3, 2, 3}, {4, 2, 0}, {-1, 2, 0},
		{0, 11, -2047}, {1023, 11, -1024}, {1024, 11, 1024}, {0, 15, -32767}, {16383, 15, -16384}, {16384, 15, 16384}, {32767, 15, 32767},
		{32768, 15, 0}, {1, 0, 0}, {0, 0, 0}, {1, 16, 0}, {40000, 16, 0}} {
		if v := Extend(x.v, x.n); v != x.want {
			t.Errorf("Extend(%d, %d) = %d, want %d", x.v, x.n, v, x.want)
		}
	}
	far := []int{math.MinInt, math.MinInt + 1, math.MinInt32, -1 << 32, -64, -1, 0, 16, 17, 31, 32, 62, 63, 64, 65, 256, 257, 1 << 32, 1<<32 + 1, math.MaxInt}
	for _, n := range far {
		for _, v := range []int{math.MinInt, -1, 0, 1, 5, 1 << 14, 1 << 31, 1 << 62, math.MaxInt} {
			if x := Extend(v, n); x != 0 {
				t.Errorf("Extend(%d, %d) = %d, want 0", v, n, x)
			}
		}
	}
	for n := 1; n <= 15; n++ {
		for _, v := range []int{math.MinInt, math.MinInt + 1, -1 << n, -1, 1 << n, 1<<n + 1, 1 << 32, 1<<32 + 1, math.MaxInt} {
			if x := Extend(v, n); x != 0 {
				t.Errorf("Extend(%d, %d) = %d, want 0", v, n, x)
			}
		}
	}
}

// Promise 5.4: what holds.

// thereAndBack puts symbols, and reads them again.
func thereAndBack(t *testing.T, x *Table, symbols []byte) {
	t.Helper()
	w := bits.NewWriter()
	for _, s := range symbols {
		if e := x.Put(w, int(s)); e != api.OK {
			t.Fatalf("Put of %d = %d", s, e)
		}
	}
	if e := w.Mark(0xd0); e != api.OK {
		t.Fatal(e)
	}
	r := bits.NewReader(w.Bytes(), 0)
	for i, want := range symbols {
		if s, e := x.Next(r); s != int(want) || e != api.OK {
			t.Fatalf("of %v: the symbol %d is %d, %d, want %d", x.Counts(), i, s, e, want)
		}
	}
	if n, v := r.Align(); v != 1<<n-1 {
		t.Fatalf("%d bits are left, %b", n, v)
	}
	if code, ok := r.Marker(); code != 0xd0 || !ok {
		t.Fatalf("behind all symbols stands %x, %v", code, ok)
	}
}

func TestThereAndBack(t *testing.T) {
	for _, counts := range edges() {
		x := made(t, counts, rising(128, sum(counts)))
		thereAndBack(t, x, nil)
		thereAndBack(t, x, []byte(x.Symbols()))
		for i := range len(x.Symbols()) {
			thereAndBack(t, x, []byte(strings.Repeat(x.Symbols()[i:i+1], 9)))
		}
	}
	mix := rand.New(rand.NewPCG(5, 4))
	for range 300 {
		counts, symbols := mixed(mix)
		put := make([]byte, mix.IntN(200))
		for i := range put {
			put[i] = symbols[mix.IntN(len(symbols))]
		}
		thereAndBack(t, made(t, counts, symbols), put)
	}
}

// unlike fails the test, if a code is a beginning of another one, or is 1s alone.
func unlike(t *testing.T, x *Table) {
	t.Helper()
	var codes []string
	for i := range len(x.Symbols()) {
		code, n, _ := x.Code(int(x.Symbols()[i]))
		codes = append(codes, digits(code, n))
	}
	for i, a := range codes {
		if !strings.Contains(a, "0") {
			t.Fatalf("of %v: the code %d is %s", x.Counts(), i, a)
		}
		for j, b := range codes {
			if i != j && strings.HasPrefix(b, a) {
				t.Fatalf("of %v: the codes %d and %d are %s and %s", x.Counts(), i, j, a, b)
			}
		}
	}
}

func TestNoCodeBeginsAnother(t *testing.T) {
	for _, counts := range edges() {
		unlike(t, made(t, counts, rising(0, sum(counts))))
	}
	mix := rand.New(rand.NewPCG(5, 5))
	for range 100 {
		counts, symbols := mixed(mix)
		unlike(t, made(t, counts, symbols))
	}
}

func TestExtendUndoesShorten(t *testing.T) {
	for v := -32767; v <= 32767; v++ {
		n, b := Shorten(v)
		if x := Extend(b, n); x != v {
			t.Fatalf("Extend(%d, %d) = %d, want %d", b, n, x, v)
		}
	}
	for n := 1; n <= 15; n++ {
		for b := range 1 << n {
			if m, c := Shorten(Extend(b, n)); m != n || c != b {
				t.Fatalf("Shorten of Extend(%d, %d) = %d, %d", b, n, m, c)
			}
		}
	}
}

// Rule 6: what was read and put with a table is not to be told of it.
func TestTablesStay(t *testing.T) {
	counts, symbols := [16]uint8{0, 1, 5, 1}, rising(0, 7)
	x := made(t, counts, symbols)
	w := bits.NewWriter()
	for s := -1; s < 9; s++ {
		x.Put(w, s)
	}
	r := bits.NewReader(w.Bytes(), 0)
	for range 30 {
		x.Next(r)
	}
	codesAlike(t, x, counts, symbols)
	thereAndBack(t, x, []byte(symbols))
}

// New inputs are looked for from here on.

func FuzzNew(f *testing.F) {
	f.Add("\x00\x01\x05\x01", "\x00\x01\x02\x03\x04\x05\x06")
	f.Add("\x02", "ab")
	f.Add("\x00\x00\x00\x00\x00\x00\x00\xff\x01", rising(0, 256))
	f.Fuzz(func(t *testing.T, c, symbols string) {
		var counts [16]uint8
		copy(counts[:], c)
		if len(symbols) > 1000 {
			return
		}
		if x := newAlike(t, counts, symbols); x != nil {
			unlike(t, x)
			thereAndBack(t, x, []byte(symbols))
		}
	})
}

func FuzzNext(f *testing.F) {
	f.Add(uint64(1), uint8(0), uint32(0x53bc0000))
	f.Fuzz(func(t *testing.T, seed uint64, begun uint8, v uint32) {
		counts, symbols := mixed(rand.New(rand.NewPCG(5, seed)))
		codes, _ := spelt(counts)
		at := int(begun % 8)
		nextAlike(t, made(t, counts, symbols), codes, at, whole(at, digits(int(v), 32)[:begun>>3], "1"))
	})
}
