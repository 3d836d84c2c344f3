package zig

import (
	"math"
	"math/rand/v2"
	"slices"
	"strconv"
	"testing"

	"aquatint/api"
)

// line is the sum of a place's two frequencies: 0 to 14.
func line(i int) int { return i%8 + i/8 }

// order is the zigzag told another way: all places, sorted by their lines and within these.
func order() []int {
	places := make([]int, 64)
	for i := range places {
		places[i] = i
	}
	slices.SortFunc(places, func(a, b int) int {
		if line(a) != line(b) {
			return line(a) - line(b)
		}
		if line(a)%2 == 1 {
			return b%8 - a%8
		}
		return a%8 - b%8
	})
	return places
}

// without are numbers that are no place of a block.
var without = []int{math.MinInt, math.MinInt + 1, math.MinInt32, -1 << 32, -256, -255, -65, -64, -63, -8, -2, -1,
	64, 65, 72, 127, 128, 255, 256, 257, 319, 320, 1 << 16, 1 << 32, 1<<32 + 1, math.MaxInt32, math.MaxInt - 1, math.MaxInt}

// counted is a block with another number at each place.
func counted() (b [64]int) {
	for i := range b {
		b[i] = 1000 + i
	}
	return b
}

// mixed is a block of numbers from a seed that is always the same, many of them alike.
func mixed(mix *rand.Rand) (b api.Block) {
	for i := range b {
		if mix.IntN(4) == 0 {
			b[i] = int16(mix.IntN(1<<16) - 1<<15)
		}
	}
	return b
}

// Promise 4.1: places and when they come.

func TestExample(t *testing.T) {
	for k, want := range map[int]int{0: 0, 1: 1, 2: 8, 3: 16, 4: 9, 5: 2, 63: 63} {
		if i, ok := At(k); i != want || !ok {
			t.Errorf("At(%d) = %d, %v, want %d", k, i, ok, want)
		}
	}
	if k, ok := Spot(8); k != 2 || !ok {
		t.Errorf("Spot(8) = %d, %v, want 2", k, ok)
	}
}

func TestAtOfAll(t *testing.T) {
	for k, want := range order() {
		if i, ok := At(k); i != want || !ok {
			t.Errorf("At(%d) = %d, %v, want %d", k, i, ok, want)
		}
	}
}

func TestSpotOfAll(t *testing.T) {
	for want, i := range order() {
		if k, ok := Spot(i); k != want || !ok {
			t.Errorf("Spot(%d) = %d, %v, want %d", i, k, ok, want)
		}
	}
}

func TestSpotAndAtUndoEachOther(t *testing.T) {
	for n := range 64 {
		i, _ := At(n)
		if k, ok := Spot(i); k != n || !ok {
			t.Errorf("Spot of At(%d) = %d, %v", n, k, ok)
		}
		k, _ := Spot(n)
		if i, ok := At(k); i != n || !ok {
			t.Errorf("At of Spot(%d) = %d, %v", n, i, ok)
		}
	}
}

func TestNoPlaces(t *testing.T) {
	for _, n := range without {
		if i, ok := At(n); i != 0 || ok {
			t.Errorf("At(%d) = %d, %v, want 0, false", n, i, ok)
		}
		if k, ok := Spot(n); k != 0 || ok {
			t.Errorf("Spot(%d) = %d, %v, want 0, false", n, k, ok)
		}
	}
}

// Promise 4.2: blocks along the zigzag, back, and over the diagonal.

func TestZigOfAll(t *testing.T) {
	z := Zig(counted())
	for k, i := range order() {
		if z[k] != 1000+i {
			t.Errorf("%d comes as the number %d, want %d", z[k], k, 1000+i)
		}
	}
}

func TestBackOfAll(t *testing.T) {
	b := Back(counted())
	for k, i := range order() {
		if b[i] != 1000+k {
			t.Errorf("%d stands at the place %d, want %d", b[i], i, 1000+k)
		}
	}
}

func TestSwapOfAll(t *testing.T) {
	b := counted()
	s := Swap(b)
	for v := range 8 {
		for u := range 8 {
			if s[8*u+v] != b[8*v+u] {
				t.Errorf("at %d across and %d down: %d, want %d", v, u, s[8*u+v], b[8*v+u])
			}
		}
	}
	for n := range 8 {
		if s[9*n] != b[9*n] {
			t.Errorf("on the diagonal, at %d: %d, want %d", 9*n, s[9*n], b[9*n])
		}
	}
}

func TestArgumentsStay(t *testing.T) {
	b := counted()
	Zig(b)
	Back(b)
	Swap(b)
	block := mixed(rand.New(rand.NewPCG(4, 2)))
	was := block
	Last(block)
	if b != counted() || block != was {
		t.Errorf("a block that was handed in became %v", b)
	}
}

// kinds goes there and back with blocks of any type, and holds them against the order.
func kinds[T comparable](t *testing.T, at func(i int) T) {
	t.Helper()
	var b [64]T
	for i := range b {
		b[i] = at(i)
	}
	z, back, s := Zig(b), Back(b), Swap(b)
	for k, i := range order() {
		if z[k] != b[i] || back[i] != b[k] || s[8*(i%8)+i/8] != b[i] {
			t.Errorf("of %T, the place %d: %v, %v, %v", b, i, z[k], back[i], s[8*(i%8)+i/8])
		}
	}
	if Back(z) != b || Zig(back) != b || Swap(s) != b {
		t.Errorf("of %T: not undone", b)
	}
}

func TestBlocksOfManyTypes(t *testing.T) {
	type pair struct {
		n    int
		text string
	}
	points := counted()
	kinds(t, func(i int) int16 { return int16(i*1000 - 32000) })
	kinds(t, func(i int) uint16 { return uint16(65535 - i) })
	kinds(t, func(i int) uint8 { return uint8(255 - i) })
	kinds(t, func(i int) int { return math.MinInt + i })
	kinds(t, func(i int) bool { return i%3 == 0 })
	kinds(t, func(i int) float64 { return float64(i) / 3 })
	kinds(t, func(i int) string { return strconv.Itoa(i) })
	kinds(t, func(i int) pair { return pair{i, strconv.Itoa(i)} })
	kinds(t, func(i int) [3]int { return [3]int{i, -i, i * i} })
	kinds(t, func(i int) *int { return &points[i] })
	kinds(t, func(i int) any { return i })
	kinds(t, func(int) any { return nil })
	kinds(t, func(int) struct{} { return struct{}{} })
	// What can't be compared may stand in a block, too.
	var lists [64][]int
	for i := range lists {
		lists[i] = []int{i}
	}
	z := Zig(lists)
	for k, i := range order() {
		if len(z[k]) != 1 || z[k][0] != i {
			t.Errorf("of lists, as the number %d: %v, want %d", k, z[k], i)
		}
	}
}

func TestBlocksOfTheApi(t *testing.T) {
	var b api.Block
	b[8*2+5] = 7
	if s := Swap(b); s[8*5+2] != 7 || s[8*2+5] != 0 {
		t.Errorf("Swap = %v", s)
	}
	q := api.Quant{At: 1}
	q.Q[16] = 65535
	if z := Zig(q.Q); z[3] != 65535 || Back(z) != q.Q {
		t.Errorf("Zig of a quantization table = %v", z)
	}
}

// Promise 4.3: the last number that isn't 0.

func TestLastOfNoughts(t *testing.T) {
	if n := Last(api.Block{}); n != 0 {
		t.Errorf("Last of noughts = %d", n)
	}
}

func TestLastOfOne(t *testing.T) {
	for want, i := range order() {
		for _, v := range []int16{1, -1, 2, 256, -256, math.MaxInt16, math.MinInt16} {
			var b api.Block
			b[i] = v
			if n := Last(b); n != want {
				t.Errorf("Last with %d at %d alone = %d, want %d", v, i, n, want)
			}
		}
	}
}

func TestLastOfTwo(t *testing.T) {
	places := order()
	for k, i := range places {
		for l, j := range places {
			var b api.Block
			b[i], b[j] = 5, -5
			if n := Last(b); n != max(k, l) {
				t.Errorf("Last with numbers at %d and %d = %d, want %d", i, j, n, max(k, l))
			}
		}
	}
}

func TestLastOfBegunBlocks(t *testing.T) {
	var b api.Block
	for k, i := range order() {
		b[i] = int16(-k - 1)
		if n := Last(b); n != k {
			t.Errorf("Last of a block filled up to the place %d = %d, want %d", i, n, k)
		}
	}
}

func TestLastOfMixedBlocks(t *testing.T) {
	mix := rand.New(rand.NewPCG(4, 3))
	places := order()
	for range 2000 {
		b := mixed(mix)
		want := 63
		for want > 0 && b[places[want]] == 0 {
			want--
		}
		if n := Last(b); n != want {
			t.Fatalf("Last of %v = %d, want %d", b, n, want)
		}
	}
}

// Promise 4.4: what undoes what.

// undone fails the test, if a block doesn't come back.
func undone(t *testing.T, b [64]int16) {
	t.Helper()
	if Back(Zig(b)) != b {
		t.Fatalf("Back doesn't undo Zig of %v", b)
	}
	if Zig(Back(b)) != b {
		t.Fatalf("Zig doesn't undo Back of %v", b)
	}
	if Swap(Swap(b)) != b {
		t.Fatalf("Swap doesn't undo Swap of %v", b)
	}
}

func TestUndone(t *testing.T) {
	undone(t, [64]int16{})
	for i := range 64 {
		var b [64]int16
		b[i] = math.MinInt16
		undone(t, b)
	}
	mix := rand.New(rand.NewPCG(4, 4))
	for range 2000 {
		undone(t, mixed(mix))
	}
}

func TestSwapStaysWithinLines(t *testing.T) {
	b := counted()
	z, s := Zig(b), Zig(Swap(b))
	at := 0
	for n := range 15 {
		long := min(n, 14-n) + 1
		was, is := z[at:at+long], s[at:at+long]
		for _, v := range was {
			if line(v-1000) != n {
				t.Errorf("%d comes on the line %d", v, n)
			}
		}
		// Across and down change places: a line is gone through from its other end.
		turned := slices.Clone(was)
		slices.Reverse(turned)
		if !slices.Equal(is, turned) {
			t.Errorf("the line %d: %v became %v", n, was, is)
		}
		at += long
	}
	if at != 64 {
		t.Errorf("the lines have %d places", at)
	}
}

func TestSwapOfOneStaysOnItsLine(t *testing.T) {
	for i := range 64 {
		var b api.Block
		b[i] = 1
		place, _ := At(Last(Swap(b)))
		if line(place) != line(i) {
			t.Errorf("from the place %d to %d", i, place)
		}
	}
}
