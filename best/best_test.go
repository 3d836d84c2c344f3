package best

import (
	"fmt"
	"math"
	"math/rand/v2"
	"slices"
	"sort"
	"strings"
	"testing"

	"aquatint/api"
	"aquatint/bits"
	"aquatint/huff"
)

// most is how often a symbol may come.
const most = 1 << 40

// wrong are numbers that tell no symbol's coming.
var wrong = []int{math.MinInt, math.MinInt + 1, math.MinInt32, -most - 1, -most, -1 << 32, -2, -1,
	most + 1, most + 2, 2 * most, 1 << 48, 1 << 62, math.MaxInt - 1, math.MaxInt}

// of is how often symbols come, told by those that do.
func of(come map[int]int) [256]int {
	var freq [256]int
	for s, n := range come {
		freq[s] = n
	}
	return freq
}

// team is symbols that belong together.
type team struct {
	at, weight int
	members    []int
}

// modelLengths tells another way how many bits the symbols' codes have: teams
// stand sorted, the least ahead, of several the last one.
func modelLengths(freq [256]int) map[int]int {
	teams := []team{{256, 1, []int{256}}}
	for s, n := range freq {
		if n > 0 {
			teams = append(teams, team{s, n, []int{s}})
		}
	}
	long := map[int]int{}
	for len(teams) > 1 {
		sort.Slice(teams, func(i, j int) bool {
			if teams[i].weight != teams[j].weight {
				return teams[i].weight < teams[j].weight
			}
			return teams[i].at > teams[j].at
		})
		a, b := teams[0], teams[1]
		both := team{a.at, a.weight + b.weight, append(slices.Clone(a.members), b.members...)}
		for _, s := range both.members {
			long[s]++
		}
		teams = append([]team{both}, teams[2:]...)
	}
	return long
}

// modelCounts tells another way how many codes each length has: lengths in a
// falling row, of which four are taken in hand at a time.
func modelCounts(long map[int]int) [16]uint8 {
	var row []int
	for _, n := range long {
		row = append(row, n)
	}
	fall := func() { sort.Sort(sort.Reverse(sort.IntSlice(row))) }
	for fall(); row[0] > 16; fall() {
		n := row[0]
		j := slices.IndexFunc(row, func(x int) bool { return x < n-1 })
		row[0], row[1], row[j] = n-1, row[j]+1, row[j]+1
	}
	var counts [16]uint8
	for _, n := range row[1:] {
		counts[n-1]++
	}
	return counts
}

// modelSymbols tells another way in which order the symbols stand.
func modelSymbols(long map[int]int) string {
	var b strings.Builder
	for n := range 257 {
		for s := range 256 {
			if long[s] == n && n > 0 {
				b.WriteByte(byte(s))
			}
		}
	}
	return b.String()
}

// longest is how many bits the longest codes have ahead of being shortened.
func longest(long map[int]int) int {
	n := 0
	for _, x := range long {
		n = max(n, x)
	}
	return n
}

// came is just the symbols that come, by rising numbers.
func came(freq [256]int) string {
	var b strings.Builder
	for s, n := range freq {
		if n > 0 {
			b.WriteByte(byte(s))
		}
	}
	return b.String()
}

// sorted is a text's bytes, by rising numbers.
func sorted(s string) string {
	b := []byte(s)
	slices.Sort(b)
	return string(b)
}

// refused fails the test, if there is a table, or another error.
func refused(t *testing.T, freq [256]int, want api.Errno) {
	t.Helper()
	if c, s, e := Table(freq); c != [16]uint8{} || s != "" || e != want {
		t.Fatalf("Table = %v, %x, %d, want the error %d", c, s, e, want)
	}
}

// made is a table that must be right, as the model has it, and of just the symbols that come.
func made(t *testing.T, freq [256]int) *huff.Table {
	t.Helper()
	c, s, e := Table(freq)
	if e != api.OK {
		t.Fatalf("Table of %v = %d", freq, e)
	}
	long := modelLengths(freq)
	if want := modelCounts(long); c != want {
		t.Fatalf("Table of %v: the counts %v, want %v", freq, c, want)
	}
	if want := modelSymbols(long); s != want {
		t.Fatalf("Table of %v: the symbols %x, want %x", freq, s, want)
	}
	if sorted(s) != came(freq) {
		t.Fatalf("Table of %v: the symbols %x", freq, s)
	}
	x, e := huff.New(c, s)
	if e != api.OK {
		t.Fatalf("Table of %v: %v, %x is no right table", freq, c, s)
	}
	costAlike(t, freq, x)
	if longest(long) <= 16 {
		cheapest(t, freq, x)
		neverLonger(t, freq, x)
	}
	return x
}

// costAlike fails the test, if the cost isn't what the table's codes take, put one by one.
func costAlike(t *testing.T, freq [256]int, x *huff.Table) {
	t.Helper()
	want := 0
	for s, often := range freq {
		w := bits.NewWriter()
		if often > 0 && x.Put(w, s) != api.OK {
			t.Fatalf("%d has no code", s)
		}
		want += often * w.Len()
	}
	if n, ok := Cost(freq, x); n != want || !ok {
		t.Fatalf("Cost of %v = %d, %v, want %d", freq, n, ok, want)
	}
}

// cheapest fails the test, if there are shorter codes: those of a tree cost the
// sum of all that is joined, whichever of several is taken; of that the
// longest code went, once.
func cheapest(t *testing.T, freq [256]int, x *huff.Table) {
	t.Helper()
	weights := []int{1}
	for _, n := range freq {
		if n > 0 {
			weights = append(weights, n)
		}
	}
	want := 0
	for len(weights) > 1 {
		slices.Sort(weights)
		weights[1] += weights[0]
		want += weights[1]
		weights = weights[1:]
	}
	counts := x.Counts()
	n := 16
	for counts[n-1] == 0 {
		n--
	}
	if cost, ok := Cost(freq, x); cost+n != want || !ok {
		t.Fatalf("Cost of %v = %d, %v, want %d", freq, cost, ok, want-n)
	}
}

// neverLonger fails the test, if a symbol that comes more often has a longer code.
func neverLonger(t *testing.T, freq [256]int, x *huff.Table) {
	t.Helper()
	var long [256]int
	for s := range long {
		_, long[s], _ = x.Code(s)
	}
	for a, n := range long {
		for b, m := range long {
			if freq[b] > 0 && freq[a] > freq[b] && n > m {
				t.Fatalf("%d comes %d times with %d bits, %d comes %d times with %d bits", a, freq[a], n, b, freq[b], m)
			}
		}
	}
}

// Promise 6.1: tables.

func TestExamples(t *testing.T) {
	for s := range 256 {
		for _, often := range []int{1, 2, 5, most} {
			x := made(t, of(map[int]int{s: often}))
			if code, n, ok := x.Code(s); code != 0 || n != 1 || !ok {
				t.Fatalf("%d alone: Code = %b, %d, %v", s, code, n, ok)
			}
		}
	}
	x := made(t, of(map[int]int{7: 1, 9: 2}))
	if code, n, ok := x.Code(9); code != 0 || n != 1 || !ok {
		t.Errorf("Code(9) = %b, %d, %v", code, n, ok)
	}
	if code, n, ok := x.Code(7); code != 2 || n != 2 || !ok {
		t.Errorf("Code(7) = %b, %d, %v", code, n, ok)
	}
}

// Worked out by hand, most of them where several are the least.
func TestKnown(t *testing.T) {
	for name, x := range map[string]struct {
		freq    map[int]int
		counts  [16]uint8
		symbols string
	}{
		"two alike":                    {map[int]int{0: 1, 1: 1}, [16]uint8{1, 1}, "\x00\x01"},
		"two alike, often":             {map[int]int{3: 9, 4: 9}, [16]uint8{1, 1}, "\x03\x04"},
		"three alike":                  {map[int]int{0: 1, 1: 1, 2: 1}, [16]uint8{0, 3}, "\x00\x01\x02"},
		"four alike":                   {map[int]int{0: 1, 1: 1, 2: 1, 3: 1}, [16]uint8{0, 3, 1}, "\x00\x01\x02\x03"},
		"a group ahead of symbols":     {map[int]int{0: 1, 1: 2, 2: 2}, [16]uint8{1, 1, 1}, "\x01\x02\x00"},
		"a group among symbols":        {map[int]int{0: 1, 1: 1, 2: 2, 200: 5}, [16]uint8{1, 1, 1, 1}, "\xc8\x02\x00\x01"},
		"a sum that equals a symbol":   {map[int]int{10: 3, 11: 2, 12: 1}, [16]uint8{1, 1, 1}, "\x0a\x0b\x0c"},
		"rising numbers, one length":   {map[int]int{5: 11, 6: 10, 7: 12, 8: 9}, [16]uint8{0, 3, 1}, "\x05\x06\x07\x08"},
		"a sum as often as a symbol":   {map[int]int{5: 8, 6: 9, 7: 10}, [16]uint8{1, 1, 1}, "\x07\x06\x05"},
		"the shorter one stands ahead": {map[int]int{1: 1, 2: 1, 255: 100}, [16]uint8{1, 1, 1}, "\xff\x01\x02"},
		"the first and the last":       {map[int]int{0: 1, 255: most}, [16]uint8{1, 1}, "\xff\x00"},
	} {
		freq := of(x.freq)
		if c, s, e := Table(freq); c != x.counts || s != x.symbols || e != api.OK {
			t.Errorf("%s: Table = %v, %x, %d, want %v, %x", name, c, s, e, x.counts, x.symbols)
		}
		made(t, freq)
	}
}

// doubled is symbols from one on, each twice as often as the one ahead.
func doubled(first, n int) [256]int {
	var freq [256]int
	for i := range n {
		freq[first+i] = 1 << i
	}
	return freq
}

// Codes of 1, 2, .. 17 bits, and one more for the symbol that is none; worked out by hand what they become.
func TestShortened(t *testing.T) {
	rising := [16]uint8{1, 1, 1, 1, 1, 1, 1, 1, 1, 1, 1, 1, 1, 1, 1, 1}
	falling := "\x10\x0f\x0e\x0d\x0c\x0b\x0a\x09\x08\x07\x06\x05\x04\x03\x02\x01\x00"
	// Of 16 symbols, with the one that is none, no code is too long.
	if c, s, e := Table(doubled(0, 16)); c != rising || s != falling[1:] || e != api.OK {
		t.Errorf("16 symbols: Table = %v, %x, %d", c, s, e)
	}
	// Two of 17 bits go, a second one of 16 comes; the one of 15 goes, and two more of 16 come; one goes at the end.
	want := rising
	want[14], want[15] = 0, 3
	if c, s, e := Table(doubled(0, 17)); c != want || s != falling || e != api.OK {
		t.Errorf("17 symbols: Table = %v, %x, %d, want %v, %x", c, s, e, want, falling)
	}
	// Of 18: two of 18 go, a second one of 17, and for one of 16 two more of 17 (4). These go in
	// two steps: the first for the one of 15 leaves 2 of 17 and 3 of 16, the second for the one of 14 leaves 4 of 16 and 2 of 15.
	want = rising
	want[13], want[14], want[15] = 0, 2, 3
	if c, s, e := Table(doubled(0, 18)); c != want || s != "\x11"+falling || e != api.OK {
		t.Errorf("18 symbols: Table = %v, %x, %d, want %v", c, s, e, want)
	}
	for n := 1; n <= 41; n++ {
		made(t, doubled(0, n))
		made(t, doubled(256-n, n))
	}
}

// steps is symbols that come as often as two others ahead in all: the longest codes that there are.
func steps(n int, place func(int) int) [256]int {
	var freq [256]int
	a, b := 1, 1
	for i := range n {
		freq[place(i)] = min(a, most)
		a, b = b, min(a+b, most)
	}
	return freq
}

func TestSteps(t *testing.T) {
	for n := 1; n <= 64; n++ {
		made(t, steps(n, func(i int) int { return i }))
		made(t, steps(n, func(i int) int { return 255 - i }))
		made(t, steps(n, func(i int) int { return i * 37 % 256 }))
	}
	made(t, steps(256, func(i int) int { return i }))
	made(t, steps(256, func(i int) int { return 255 - i }))
}

// filled is all symbols as often.
func filled(n int) [256]int {
	var freq [256]int
	for s := range freq {
		freq[s] = n
	}
	return freq
}

func TestAllSymbols(t *testing.T) {
	for _, n := range []int{1, 2, 3, 255, 256, 1000, most - 1, most} {
		c, s, e := Table(filled(n))
		if e != api.OK || len(s) != 256 || c != [16]uint8{7: 255, 8: 1} {
			t.Errorf("all symbols %d times: %v, %x, %d", n, c, s, e)
		}
		made(t, filled(n))
	}
	for _, s := range []int{0, 1, 127, 254, 255} {
		for _, n := range []int{2, 7, 256, 257, 1000, most} {
			freq := filled(1)
			freq[s] = n
			made(t, freq)
		}
		freq := filled(2)
		freq[s] = 1
		made(t, freq)
		freq[s] = 0
		made(t, freq)
		freq = filled(most)
		freq[s] = 1
		made(t, freq)
	}
}

// 256 codes of one length, ahead of one going: no count may be more than 255.
func TestFullLengths(t *testing.T) {
	freq := filled(1)
	freq[77] = most
	if c, s, e := Table(freq); c != [16]uint8{0: 1, 8: 255} || len(s) != 256 || s[0] != 77 || e != api.OK {
		t.Errorf("one often, 255 others: %v, %x, %d", c, s, e)
	}
	freq[77] = 0
	if c, s, e := Table(freq); c != [16]uint8{7: 255} || len(s) != 255 || e != api.OK {
		t.Errorf("255 symbols: %v, %x, %d", c, s, e)
	}
}

func TestAllFewSymbols(t *testing.T) {
	places := [][4]int{{0, 1, 2, 3}, {255, 254, 253, 252}, {9, 200, 10, 100}}
	for v := range 6 * 6 * 6 * 6 {
		for _, p := range places {
			freq := of(map[int]int{p[0]: v % 6, p[1]: v / 6 % 6, p[2]: v / 36 % 6, p[3]: v / 216})
			if v == 0 {
				refused(t, freq, api.ErrTable)
			} else {
				made(t, freq)
			}
		}
	}
}

func TestNoSymbol(t *testing.T) {
	refused(t, [256]int{}, api.ErrTable)
}

func TestWrongNumbers(t *testing.T) {
	for s := range 256 {
		for _, n := range wrong {
			for _, others := range []int{0, 1, most} {
				freq := filled(others)
				freq[s] = n
				refused(t, freq, api.ErrArg)
			}
		}
	}
	for _, n := range wrong {
		refused(t, filled(n), api.ErrArg)
		// Numbers whose sum is 0 are none that come.
		refused(t, of(map[int]int{1: n, 2: -n}), api.ErrArg)
	}
	for s := range 256 {
		made(t, of(map[int]int{s: most}))
		made(t, of(map[int]int{s: most, (s + 1) % 256: most, (s + 2) % 256: 1}))
	}
}

// kinds are ways how often a symbol may come, from a seed that is always the same.
func kinds(mix *rand.Rand) []func() int {
	return []func() int{
		func() int { return mix.IntN(2) },
		func() int { return mix.IntN(4) },
		func() int { return 1 + mix.IntN(3) },
		func() int { return mix.IntN(1000) },
		func() int { return 1 << mix.IntN(41) },
		func() int { return 1 << mix.IntN(20) * mix.IntN(2) },
		func() int { return mix.IntN(1 << mix.IntN(41)) },
		func() int { return mix.IntN(most + 1) },
		func() int { return most - mix.IntN(2) },
		func() int { return most >> mix.IntN(60) },
	}
}

// mixed is so many symbols that come, anywhere, one of them for sure.
func mixed(mix *rand.Rand, n int, often func() int) [256]int {
	var freq [256]int
	for _, s := range mix.Perm(256)[:n] {
		freq[s] = often()
	}
	freq[mix.IntN(256)] = 1 + mix.IntN(5)
	return freq
}

func TestMixed(t *testing.T) {
	mix := rand.New(rand.NewPCG(6, 1))
	shortened := 0
	for _, often := range kinds(mix) {
		for range 60 {
			freq := mixed(mix, 1+mix.IntN(40), often)
			made(t, freq)
			if longest(modelLengths(freq)) > 16 {
				shortened++
			}
		}
		for range 4 {
			made(t, mixed(mix, 41+mix.IntN(216), often))
		}
	}
	if shortened < 20 {
		t.Errorf("%d tables had codes to be shortened", shortened)
	}
}

// Promise 6.2: what symbols cost.

// table is a table that must be right, of any counts.
func table(t *testing.T, counts [16]uint8, symbols string) *huff.Table {
	t.Helper()
	x, e := huff.New(counts, symbols)
	if e != api.OK {
		t.Fatalf("New(%v, %x) = %d", counts, symbols, e)
	}
	return x
}

func TestCost(t *testing.T) {
	x := table(t, [16]uint8{0, 1, 5, 1}, "\x00\x01\x02\x03\x04\x05\x06")
	y := table(t, [16]uint8{15: 2}, "\x00\xff")
	for name, c := range map[string]struct {
		come map[int]int
		x    *huff.Table
		want int
		ok   bool
	}{
		"nothing":                     {nil, x, 0, true},
		"one of two bits":             {map[int]int{0: 1}, x, 2, true},
		"one of four bits":            {map[int]int{6: 1}, x, 4, true},
		"some of each":                {map[int]int{0: 10, 1: 7, 5: 3, 6: 2}, x, 20 + 30 + 8, true},
		"all":                         {map[int]int{0: 1, 1: 1, 2: 1, 3: 1, 4: 1, 5: 1, 6: 1}, x, 21, true},
		"the most":                    {map[int]int{6: most}, x, 4 * most, true},
		"the most of long codes":      {map[int]int{0: most, 255: most}, y, 32 * most, true},
		"one that has no code":        {map[int]int{7: 1}, x, 0, false},
		"one that has none, and some": {map[int]int{0: 5, 255: 1}, x, 0, false},
		"one that has none, ahead":    {map[int]int{1: 1, 255: 3}, y, 0, false},
		"a number that may not be":    {map[int]int{0: 5, 1: most + 1}, x, 0, false},
		"a number below 0":            {map[int]int{0: 5, 1: -1}, x, 0, false},
		"no table":                    {map[int]int{0: 5}, nil, 0, false},
		"no table, nothing":           {nil, nil, 0, false},
	} {
		if n, ok := Cost(of(c.come), c.x); n != c.want || ok != c.ok {
			t.Errorf("%s: Cost = %d, %v, want %d, %v", name, n, ok, c.want, c.ok)
		}
	}
}

// Symbols that don't come need no code, and those that have one needn't come.
func TestCostOfEachSymbol(t *testing.T) {
	all, _, _ := Table(filled(1))
	var symbols strings.Builder
	for s := range 256 {
		symbols.WriteByte(byte(255 - s))
	}
	x := table(t, all, symbols.String())
	for s := range 256 {
		freq := of(map[int]int{s: 3})
		want := 24
		if s == 0 {
			want = 27
		}
		if n, ok := Cost(freq, x); n != want || !ok {
			t.Fatalf("Cost of %d thrice = %d, %v, want %d", s, n, ok, want)
		}
		alone := table(t, [16]uint8{0, 0, 1}, string([]byte{byte(s)}))
		if n, ok := Cost(freq, alone); n != 9 || !ok {
			t.Fatalf("Cost of %d thrice = %d, %v, want 9", s, n, ok)
		}
		other := of(map[int]int{s: 3, (s + 1) % 256: 1})
		if n, ok := Cost(other, alone); n != 0 || ok {
			t.Fatalf("Cost of %d and the next = %d, %v", s, n, ok)
		}
	}
}

func TestCostOfWrongNumbers(t *testing.T) {
	c, symbols, _ := Table(filled(1))
	x := table(t, c, symbols)
	alone := table(t, [16]uint8{1}, "\x00")
	for s := range 256 {
		for _, n := range wrong {
			for _, others := range []int{0, 1, most} {
				freq := filled(others)
				freq[s] = n
				for _, y := range []*huff.Table{x, alone, nil} {
					if n, ok := Cost(freq, y); n != 0 || ok {
						t.Fatalf("Cost with %d of %d = %d, %v", freq[s], s, n, ok)
					}
				}
			}
		}
	}
	if n, ok := Cost(filled(most), x); n != most*(255*8+9) || !ok {
		t.Errorf("Cost of all, the most = %d, %v", n, ok)
	}
}

// Promise 6.3: what holds.

// Of 2000 in all a code has 15 bits at most, so nothing is shortened.
func TestMoreOftenNoLonger(t *testing.T) {
	held := func(freq [256]int) {
		t.Helper()
		sum := 0
		for _, n := range freq {
			sum += n
		}
		if sum > 2000 || sum < 1 {
			t.Fatalf("all come %d times", sum)
		}
		neverLonger(t, freq, made(t, freq))
	}
	for n := 1; n <= 15; n++ {
		held(steps(n, func(i int) int { return i }))
		held(steps(n, func(i int) int { return 255 - i }))
	}
	for n := 1; n <= 10; n++ {
		held(doubled(n, n))
	}
	held(of(map[int]int{0: 2000}))
	held(of(map[int]int{0: 1999, 255: 1}))
	mix := rand.New(rand.NewPCG(6, 3))
	for range 300 {
		var freq [256]int
		n := 1 + mix.IntN(256)
		for range 2000 {
			// A power of the number leaves some that come often, and many that come seldom.
			freq[int(math.Pow(mix.Float64(), float64(1+n%7))*float64(n))]++
		}
		mix.Shuffle(256, func(i, j int) { freq[i], freq[j] = freq[j], freq[i] })
		held(freq)
	}
}

// What was written by a table takes as many bits as was told, and is read again.
func TestThereAndBack(t *testing.T) {
	mix := rand.New(rand.NewPCG(6, 4))
	for range 200 {
		var freq [256]int
		put := make([]int, 1+mix.IntN(400))
		for i := range put {
			put[i] = mix.IntN(1 + mix.IntN(256))
			freq[put[i]]++
		}
		x := made(t, freq)
		w := bits.NewWriter()
		for _, s := range put {
			if e := x.Put(w, s); e != api.OK {
				t.Fatalf("Put of %d = %d", s, e)
			}
		}
		if n, ok := Cost(freq, x); n != w.Len() || !ok {
			t.Fatalf("Cost = %d, %v, but %d bits were put", n, ok, w.Len())
		}
		r := bits.NewReader(w.Bytes(), 0)
		for i, want := range put {
			if s, e := x.Next(r); s != want || e != api.OK {
				t.Fatalf("the symbol %d is %d, %d, want %d", i, s, e, want)
			}
		}
	}
}

// Rule 6: an answer hangs on what is given alone.
func TestAgain(t *testing.T) {
	mix := rand.New(rand.NewPCG(6, 5))
	freq := mixed(mix, 200, func() int { return mix.IntN(9) })
	first := tell(freq)
	for range 20 {
		Table(filled(most))
		Table(filled(-1))
		if again := tell(freq); again != first {
			t.Fatalf("%s, then %s", first, again)
		}
	}
}

// tell is a table as a text.
func tell(freq [256]int) string {
	c, s, e := Table(freq)
	return fmt.Sprintf("%v %x %d", c, s, e)
}

// New inputs are looked for from here on.

func FuzzTable(f *testing.F) {
	f.Add("\x01\x01\x02\x05", uint8(0), uint8(1))
	f.Add("\x00\x01\x02\x03\x04\x05\x06\x07\x08\x09\x0a\x0b\x0c\x0d\x0e\x0f\x10\x11\x12", uint8(9), uint8(40))
	f.Fuzz(func(t *testing.T, come string, first, scale uint8) {
		var freq [256]int
		for i := range min(len(come), 256) {
			n := int(come[i])
			if scale%2 == 1 {
				// Some numbers become greater than may be.
				n = n & 7 << (n >> 3) << (scale >> 5)
			}
			freq[(int(first)+i)%256] = n
		}
		switch {
		case slices.Max(freq[:]) > most:
			refused(t, freq, api.ErrArg)
		case slices.Max(freq[:]) == 0:
			refused(t, freq, api.ErrTable)
		default:
			made(t, freq)
		}
	})
}
