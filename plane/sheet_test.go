package plane

import (
	"math"
	"math/rand/v2"
	"slices"
	"testing"

	"aquatint/api"
)

// far are numbers far out, and those next to the edges of integers.
var far = []int{math.MinInt, math.MinInt + 1, -1 << 32, -1 << 31, -api.MaxBlocks, -2, -1, api.MaxBlocks, api.MaxBlocks + 1, 1 << 31, 1 << 32, 1<<32 + 1, 1 << 62, math.MaxInt - 1, math.MaxInt}

// block is a block that tells its number in each coefficient; those of all
// numbers up to MaxBlocks are different.
func block(n int) api.Block {
	var b api.Block
	for i := range b {
		b[i] = int16(n + 257*i)
	}
	return b
}

// filled is a plane whose blocks are all different.
func filled(cols, rows int) api.Plane {
	p := api.Plane{Cols: cols, Rows: rows}
	for n := range cols * rows {
		p.B = append(p.B, block(n))
	}
	return p
}

// like tells whether two planes have the same columns, rows and blocks; it
// goes through the coefficients one by one.
func like(a, b api.Plane) bool {
	if a.Cols != b.Cols || a.Rows != b.Rows || len(a.B) != len(b.B) {
		return false
	}
	for i := range a.B {
		for k := range 64 {
			if a.B[i][k] != b.B[i][k] {
				return false
			}
		}
	}
	return true
}

// wrong are planes that aren't right.
func wrong() []api.Plane {
	b := func(n int) []api.Block { return make([]api.Block, n) }
	out := []api.Plane{
		{},
		{B: b(1)},
		{Cols: 1, Rows: 0},
		{Cols: 0, Rows: 1},
		{Cols: 0, Rows: 1, B: b(1)},
		{Cols: 1, Rows: 0, B: b(1)},
		{Cols: 1, Rows: 1},
		{Cols: 1, Rows: 1, B: b(2)},
		{Cols: 3, Rows: 2, B: b(5)},
		{Cols: 3, Rows: 2, B: b(7)},
		{Cols: 3, Rows: 2, B: b(6)[:5]},
		{Cols: -1, Rows: -1, B: b(1)},
		{Cols: -3, Rows: -2, B: b(6)},
		{Cols: -3, Rows: 2, B: b(6)},
		{Cols: api.MaxBlocks + 1, Rows: 1, B: b(api.MaxBlocks + 1)},
		{Cols: 1, Rows: api.MaxBlocks + 1, B: b(api.MaxBlocks + 1)},
		{Cols: 129, Rows: 128, B: b(129 * 128)},
		{Cols: 128, Rows: 129, B: b(129 * 128)},
		{Cols: 128, Rows: 128, B: b(128*128 - 1)},
		{Cols: 128, Rows: 128, B: b(128*128 + 1)},
	}
	// Products that are 0, 1 or 6 only where they wrap round.
	for _, x := range far {
		for _, y := range append([]int{0, 1, 2, 3, 6}, far...) {
			if n := x * y; n >= 0 && n <= 6 && (x < 0 || y != 1) {
				out = append(out, api.Plane{Cols: x, Rows: y, B: b(n)}, api.Plane{Cols: y, Rows: x, B: b(n)})
			}
			out = append(out, api.Plane{Cols: x, Rows: y, B: b(1)}, api.Plane{Cols: y, Rows: x})
		}
	}
	return out
}

// sheet makes a sheet that may be.
func sheet(t *testing.T, cols, rows int) *Sheet {
	t.Helper()
	s, e := New(cols, rows)
	if s == nil || e != api.OK {
		t.Fatalf("New(%d, %d) = %v, %d", cols, rows, s, e)
	}
	return s
}

// Promise 10.1: planes that are right, planes alike, sheets.

func TestRight(t *testing.T) {
	for cols := -2; cols <= 5; cols++ {
		for rows := -2; rows <= 5; rows++ {
			for n := range 30 {
				p := api.Plane{Cols: cols, Rows: rows, B: make([]api.Block, n)}
				if got, want := Right(p), cols > 0 && rows > 0 && n == cols*rows; got != want {
					t.Errorf("%d by %d, %d blocks: Right = %v", cols, rows, n, got)
				}
			}
		}
	}
	for _, p := range wrong() {
		if Right(p) {
			t.Errorf("%d by %d, %d blocks: Right", p.Cols, p.Rows, len(p.B))
		}
	}
}

func TestRightAtMostBlocks(t *testing.T) {
	all := make([]api.Block, api.MaxBlocks+200)
	for cols := 1; cols <= api.MaxBlocks; cols++ {
		rows := api.MaxBlocks / cols
		for _, p := range []api.Plane{{Cols: cols, Rows: rows}, {Cols: rows, Rows: cols}} {
			p.B = all[:cols*rows]
			if !Right(p) {
				t.Fatalf("%d by %d: not Right", p.Cols, p.Rows)
			}
		}
		if more := cols * (rows + 1); more <= len(all) {
			if Right(api.Plane{Cols: cols, Rows: rows + 1, B: all[:more]}) || Right(api.Plane{Cols: rows + 1, Rows: cols, B: all[:more]}) {
				t.Fatalf("%d by %d: Right", cols, rows+1)
			}
		}
	}
}

func TestSame(t *testing.T) {
	a := filled(3, 2)
	if !Same(a, filled(3, 2)) {
		t.Errorf("not Same")
	}
	for i := range a.B {
		for k := range 64 {
			b := filled(3, 2)
			b.B[i][k]++
			if Same(a, b) || Same(b, a) {
				t.Errorf("Same, but at %d of the block %d", k, i)
			}
		}
	}
	for _, b := range []api.Plane{{Cols: 2, Rows: 3, B: a.B}, {Cols: 3, Rows: 3, B: a.B}, {Cols: 2, Rows: 2, B: a.B}, {Cols: 3, Rows: 2, B: a.B[:5]}, {Cols: 3, Rows: 2}, {B: a.B}, {}} {
		if Same(a, b) || Same(b, a) {
			t.Errorf("Same as %d by %d, %d blocks", b.Cols, b.Rows, len(b.B))
		}
		if !Same(b, b) {
			t.Errorf("%d by %d: not Same as itself", b.Cols, b.Rows)
		}
	}
}

func TestSameOfPlanesThatArentRight(t *testing.T) {
	for _, p := range wrong() {
		q := api.Plane{Cols: p.Cols, Rows: p.Rows, B: append(make([]api.Block, 0, len(p.B)+3), p.B...)}
		if !Same(p, q) {
			t.Errorf("%d by %d: not Same", p.Cols, p.Rows)
		}
		q.Rows++
		if Same(p, q) {
			t.Errorf("%d by %d: Same with another row", p.Cols, p.Rows)
		}
	}
	if !Same(api.Plane{Cols: 1, Rows: 2}, api.Plane{Cols: 1, Rows: 2, B: []api.Block{}}) {
		t.Errorf("no blocks aren't no blocks")
	}
}

func TestSameAsTheModelSays(t *testing.T) {
	var l []api.Plane
	for cols := range 3 {
		for rows := range 3 {
			for n := range 3 {
				for _, b := range []api.Block{{}, {1}, {63: 1}} {
					p := api.Plane{Cols: cols, Rows: rows, B: make([]api.Block, n)}
					if n > 0 {
						p.B[n-1] = b
					}
					l = append(l, p)
				}
			}
		}
	}
	for _, a := range l {
		for _, b := range l {
			if Same(a, b) != like(a, b) {
				t.Errorf("Same(%v, %v) = %v", a, b, Same(a, b))
			}
		}
	}
}

func TestNew(t *testing.T) {
	for _, x := range [][2]int{{1, 1}, {1, 7}, {7, 1}, {3, 2}, {128, 128}, {api.MaxBlocks, 1}, {1, api.MaxBlocks}, {3, 5461}, {5461, 3}, {127, 129}} {
		cols, rows := x[0], x[1]
		p := sheet(t, cols, rows).Plane()
		if !like(p, api.Plane{Cols: cols, Rows: rows, B: make([]api.Block, cols*rows)}) || !Right(p) {
			t.Errorf("New(%d, %d): %d by %d, %d blocks", cols, rows, p.Cols, p.Rows, len(p.B))
		}
	}
}

func TestNewRefused(t *testing.T) {
	noSheet := func(cols, rows int, want api.Errno) {
		t.Helper()
		if s, e := New(cols, rows); s != nil || e != want {
			t.Errorf("New(%d, %d) = %v, %d, want %d", cols, rows, s, e, want)
		}
	}
	for _, n := range append([]int{0}, far...) {
		if n >= 1 {
			continue
		}
		// It is named first.
		for _, m := range append([]int{0, 1, 2, 16383}, far...) {
			noSheet(n, m, api.ErrArg)
			noSheet(m, n, api.ErrArg)
		}
	}
	for _, x := range [][2]int{{api.MaxBlocks + 1, 1}, {128, 129}, {3, 5462}, {2, 8193}, {127, 130}, {api.MaxBlocks, 2}, {api.MaxBlocks, api.MaxBlocks}} {
		noSheet(x[0], x[1], api.ErrLarge)
		noSheet(x[1], x[0], api.ErrLarge)
	}
	for _, n := range far {
		if n <= api.MaxBlocks {
			continue
		}
		for _, m := range append([]int{1, 2, 4, 1 << 34}, far...) {
			if m >= 1 {
				noSheet(n, m, api.ErrLarge)
				noSheet(m, n, api.ErrLarge)
			}
		}
	}
}

func TestOf(t *testing.T) {
	for cols := 1; cols <= 4; cols++ {
		for rows := 1; rows <= 4; rows++ {
			s, e := Of(filled(cols, rows))
			if s == nil || e != api.OK || !like(s.Plane(), filled(cols, rows)) {
				t.Errorf("%d by %d: Of = %v, %d", cols, rows, s, e)
			}
		}
	}
	for _, p := range wrong() {
		if s, e := Of(p); s != nil || e != api.ErrArg {
			t.Errorf("%d by %d, %d blocks: Of = %v, %d", p.Cols, p.Rows, len(p.B), s, e)
		}
	}
}

func TestOfKeepsNothing(t *testing.T) {
	room := append(filled(3, 2).B, block(6), block(7))
	p := api.Plane{Cols: 3, Rows: 2, B: room[:6]}
	s, _ := Of(p)
	for n := range 6 {
		s.Set(n/3, n%3, block(100+n))
	}
	for n := range room {
		if room[n] != block(n) {
			t.Errorf("what was handed in became %v at %d", room[n], n)
		}
	}
	clear(room)
	for n := range 6 {
		if b, ok := s.At(n/3, n%3); !ok || b != block(100+n) {
			t.Errorf("At %d = %v, %v", n, b, ok)
		}
	}
}

func TestAtAndSet(t *testing.T) {
	for cols := 1; cols <= 4; cols++ {
		for rows := 1; rows <= 4; rows++ {
			s := sheet(t, cols, rows)
			want := api.Plane{Cols: cols, Rows: rows, B: make([]api.Block, cols*rows)}
			for n := range cols * rows {
				if !s.Set(n/cols, n%cols, block(n)) {
					t.Errorf("%d by %d: Set %d is refused", cols, rows, n)
				}
				want.B[n] = block(n)
				if !like(s.Plane(), want) {
					t.Errorf("%d by %d: behind Set %d: %v", cols, rows, n, s.Plane())
				}
			}
			for n := range cols * rows {
				if b, ok := s.At(n/cols, n%cols); !ok || b != block(n) {
					t.Errorf("%d by %d: At %d = %v, %v", cols, rows, n, b, ok)
				}
			}
		}
	}
}

// nowhere fails the test, if a sheet has a block there, or takes one.
func nowhere(t *testing.T, s *Sheet, row, col int) {
	t.Helper()
	was := s.Plane()
	if b, ok := s.At(row, col); ok || b != (api.Block{}) {
		t.Errorf("At(%d, %d) = %v, %v", row, col, b, ok)
	}
	if s.Set(row, col, block(99)) || !like(s.Plane(), was) {
		t.Errorf("Set(%d, %d): %v", row, col, s.Plane())
	}
}

func TestWhereThereIsNoBlock(t *testing.T) {
	for _, side := range [][2]int{{1, 1}, {3, 2}, {2, 3}, {4, 1}, {1, 4}} {
		s, _ := Of(filled(side[0], side[1]))
		for row := -7; row < 8; row++ {
			for col := -7; col < 8; col++ {
				if row < 0 || row >= side[1] || col < 0 || col >= side[0] {
					nowhere(t, s, row, col)
				}
			}
		}
		for _, x := range far {
			for _, y := range append([]int{0, 1, 2}, far...) {
				nowhere(t, s, x, y)
				nowhere(t, s, y, x)
			}
		}
	}
}

func TestNil(t *testing.T) {
	var s *Sheet
	for _, n := range append([]int{0, 1}, far...) {
		if b, ok := s.At(n, 0); ok || b != (api.Block{}) {
			t.Errorf("At(%d, 0) = %v, %v", n, b, ok)
		}
		if b, ok := s.At(0, n); ok || b != (api.Block{}) {
			t.Errorf("At(0, %d) = %v, %v", n, b, ok)
		}
		if s.Set(n, 0, block(1)) || s.Set(0, n, block(1)) {
			t.Errorf("Set of %d", n)
		}
	}
	if p := s.Plane(); p.Cols != 0 || p.Rows != 0 || len(p.B) != 0 {
		t.Errorf("Plane = %v", p)
	}
}

func TestPlanesShareNothing(t *testing.T) {
	s, _ := Of(filled(3, 2))
	a, b := s.Plane(), s.Plane()
	a.B = a.B[:cap(a.B)]
	clear(a.B)
	if !like(b, filled(3, 2)) || !like(s.Plane(), filled(3, 2)) {
		t.Errorf("one plane was written into, and another one is %v", b)
	}
	s.Set(1, 1, block(50))
	if !like(b, filled(3, 2)) {
		t.Errorf("a block was set, and a plane of ahead is %v", b)
	}
	if q := s.Plane(); q.B[4] != block(50) {
		t.Errorf("Plane = %v", q)
	}
	// Two sheets of one plane are two.
	p := filled(2, 2)
	c, _ := Of(p)
	d, _ := Of(p)
	c.Set(0, 0, block(9))
	if b, _ := d.At(0, 0); b != block(0) {
		t.Errorf("At = %v", b)
	}
}

func TestSheetsAsTheModelSays(t *testing.T) {
	mix := rand.New(rand.NewPCG(10, 1))
	for range 300 {
		cols, rows := 1+mix.IntN(6), 1+mix.IntN(6)
		s := sheet(t, cols, rows)
		model := map[[2]int]api.Block{}
		for range 60 {
			row, col := mix.IntN(rows+4)-2, mix.IntN(cols+4)-2
			in := row >= 0 && row < rows && col >= 0 && col < cols
			if b, ok := s.At(row, col); ok != in || b != model[[2]int{row, col}] {
				t.Fatalf("%d by %d: At(%d, %d) = %v, %v", cols, rows, row, col, b, ok)
			}
			b := block(mix.IntN(100))
			if s.Set(row, col, b) != in {
				t.Fatalf("%d by %d: Set(%d, %d) = %v", cols, rows, row, col, !in)
			}
			if in {
				model[[2]int{row, col}] = b
			}
		}
		p := s.Plane()
		var want []api.Block
		for row := range rows {
			for col := range cols {
				want = append(want, model[[2]int{row, col}])
			}
		}
		if p.Cols != cols || p.Rows != rows || !slices.Equal(p.B, want) {
			t.Fatalf("%d by %d: Plane = %v", cols, rows, p)
		}
	}
}
