package frame

import (
	"cmp"
	"math"
	"math/rand/v2"
	"slices"
	"testing"

	"aquatint/api"
)

// laid makes a frame that may be.
func laid(t *testing.T, w, h int, l ...Part) *Frame {
	t.Helper()
	f, e := New(w, h, l)
	if f == nil || e != api.OK {
		t.Fatalf("New(%d, %d, %v) = %v, %d", w, h, l, f, e)
	}
	return f
}

// refused fails the test, if a frame isn't refused with just that error.
func refused(t *testing.T, want api.Errno, w, h int, l ...Part) {
	t.Helper()
	was := slices.Clone(l)
	if f, e := New(w, h, l); f != nil || e != want {
		t.Fatalf("New(%d, %d, %v) = %v, %d, want %d", w, h, l, f, e, want)
	}
	if !slices.Equal(l, was) {
		t.Fatalf("what was handed in was %v, and became %v", was, l)
	}
}

// p is factors.
func p(h, v int) Part { return Part{H: h, V: v} }

// step is what a scan hands out at a time.
type step struct {
	N int
	S Spot
}

// all is all that a scan hands out.
func all(f *Frame, comps ...int) []step {
	var out []step
	for n, s := range f.Scan(comps) {
		out = append(out, step{n, s})
	}
	return out
}

// model is a frame told another way: what covers is found by adding, and each
// block's place in a scan by sorting.
type model struct {
	w, h, unitW, unitH int
	parts              []Part
}

func newModel(w, h int, l []Part) model {
	m := model{w: w, h: h, parts: slices.Clone(l)}
	if len(l) == 1 {
		m.parts[0] = Part{1, 1}
	}
	m.unitW = 8 * slices.MaxFunc(m.parts, func(a, b Part) int { return a.H - b.H }).H
	m.unitH = 8 * slices.MaxFunc(m.parts, func(a, b Part) int { return a.V - b.V }).V
	return m
}

// cover is how many pieces of num samples of den in one cover n samples.
func cover(n, num, den int) int {
	k := 0
	for k*num < n*den {
		k++
	}
	return k
}

func (m model) units() (int, int) { return cover(m.w, m.unitW, 1), cover(m.h, m.unitH, 1) }

func (m model) grid(c int) Grid {
	a, d := m.units()
	x := m.parts[c]
	// A component's own samples, of which there are H for every HH of the whole.
	w, h := cover(m.w*x.H, m.unitW/8, 1), cover(m.h*x.V, m.unitH/8, 1)
	return Grid{Cols: a * x.H, Rows: d * x.V, OwnCols: cover(w, 8, 1), OwnRows: cover(h, 8, 1)}
}

func (m model) blocks() int {
	n := 0
	for c := range m.parts {
		n += m.grid(c).Cols * m.grid(c).Rows
	}
	return n
}

func (m model) scan(comps []int) []step {
	var out []step
	a, _ := m.units()
	for _, c := range comps {
		g := m.grid(c)
		if len(comps) == 1 {
			for i := range g.OwnCols * g.OwnRows {
				out = append(out, step{i, Spot{c, i / g.OwnCols, i % g.OwnCols}})
			}
			continue
		}
		for i := range g.Cols * g.Rows {
			row, col := i/g.Cols, i%g.Cols
			out = append(out, step{row/m.parts[c].V*a + col/m.parts[c].H, Spot{c, row, col}})
		}
	}
	slices.SortFunc(out, func(x, y step) int {
		return cmp.Or(x.N-y.N, x.S.Comp-y.S.Comp, x.S.Row-y.S.Row, x.S.Col-y.S.Col)
	})
	return out
}

func (m model) count(comps []int) int {
	if len(comps) == 1 {
		return m.grid(comps[0]).OwnCols * m.grid(comps[0]).OwnRows
	}
	a, d := m.units()
	return a * d
}

// rows are all rising rows of numbers below n but the empty one.
func rows(n int) [][]int {
	var out [][]int
	for mask := 1; mask < 1<<n; mask++ {
		var l []int
		for c := range n {
			if mask>>c&1 == 1 {
				l = append(l, c)
			}
		}
		out = append(out, l)
	}
	return out
}

// alike fails the test, if a frame isn't as the model says.
func alike(t *testing.T, w, h int, l ...Part) {
	t.Helper()
	m := newModel(w, h, l)
	f := laid(t, w, h, l...)
	a, d := f.Units()
	if wantA, wantD := m.units(); a != wantA || d != wantD {
		t.Fatalf("%d by %d, %v: Units = %d, %d, want %d, %d", w, h, l, a, d, wantA, wantD)
	}
	if x, y := f.Unit(); x != m.unitW || y != m.unitH {
		t.Fatalf("%d by %d, %v: Unit = %d, %d, want %d, %d", w, h, l, x, y, m.unitW, m.unitH)
	}
	if n := f.Blocks(); n != m.blocks() {
		t.Fatalf("%d by %d, %v: Blocks = %d, want %d", w, h, l, n, m.blocks())
	}
	for c := range l {
		if g, ok := f.Grid(c); g != m.grid(c) || !ok {
			t.Fatalf("%d by %d, %v: Grid(%d) = %v, %v, want %v", w, h, l, c, g, ok, m.grid(c))
		}
	}
	for _, comps := range rows(len(l)) {
		if n, e := f.Count(comps); n != m.count(comps) || e != api.OK {
			t.Fatalf("%d by %d, %v: Count(%v) = %d, %d, want %d", w, h, l, comps, n, e, m.count(comps))
		}
		if got, want := all(f, comps...), m.scan(comps); !slices.Equal(got, want) {
			t.Fatalf("%d by %d, %v: Scan(%v) = %v, want %v", w, h, l, comps, got, want)
		}
	}
}

// some are factors of one component and of several: all that may be of one and
// of two, and some of more.
func some() [][]Part {
	var one []Part
	for i := range 16 {
		one = append(one, p(i/4+1, i%4+1))
	}
	var out [][]Part
	for _, a := range one {
		out = append(out, []Part{a})
		for _, b := range one {
			if a.H*a.V+b.H*b.V <= 10 {
				out = append(out, []Part{a, b})
			}
		}
	}
	return append(out, []Part{p(1, 1), p(1, 1), p(1, 1)}, []Part{p(2, 2), p(1, 1), p(1, 1)}, []Part{p(2, 1), p(1, 1), p(1, 1)}, []Part{p(1, 2), p(1, 1), p(1, 1)},
		[]Part{p(1, 1), p(2, 2), p(1, 2)}, []Part{p(4, 2), p(1, 1), p(1, 1)}, []Part{p(2, 3), p(3, 1), p(1, 1)}, []Part{p(2, 2), p(2, 2), p(1, 2)},
		[]Part{p(1, 1), p(1, 1), p(1, 1), p(1, 1)}, []Part{p(2, 2), p(1, 1), p(1, 1), p(2, 2)}, []Part{p(4, 1), p(1, 4), p(1, 1), p(1, 1)}, []Part{p(2, 1), p(1, 2), p(3, 1), p(1, 3)})
}

// Promise 9.1: frames, and how they lie.

func TestExampleOfTheChapter(t *testing.T) {
	f := laid(t, 17, 9, p(2, 2), p(1, 1), p(1, 1))
	if w, h := f.Unit(); w != 16 || h != 16 {
		t.Errorf("Unit = %d, %d", w, h)
	}
	if a, d := f.Units(); a != 2 || d != 1 {
		t.Errorf("Units = %d, %d", a, d)
	}
	for c, want := range []Grid{{4, 2, 3, 2}, {2, 1, 2, 1}, {2, 1, 2, 1}} {
		if g, ok := f.Grid(c); g != want || !ok {
			t.Errorf("Grid(%d) = %v, %v", c, g, ok)
		}
	}
	if n := f.Blocks(); n != 12 {
		t.Errorf("Blocks = %d", n)
	}
}

func TestOneAlone(t *testing.T) {
	for h := 1; h <= 4; h++ {
		for v := 1; v <= 4; v++ {
			f := laid(t, 17, 9, p(h, v))
			if w, h := f.Unit(); w != 8 || h != 8 {
				t.Errorf("Unit = %d, %d", w, h)
			}
			if a, d := f.Units(); a != 3 || d != 2 {
				t.Errorf("Units = %d, %d", a, d)
			}
			if g, ok := f.Grid(0); g != (Grid{3, 2, 3, 2}) || !ok || f.Blocks() != 6 {
				t.Errorf("Grid = %v, %v, Blocks = %d", g, ok, f.Blocks())
			}
		}
	}
}

func TestFramesAsTheModelSays(t *testing.T) {
	for _, l := range some() {
		for _, w := range []int{1, 7, 8, 9, 15, 16, 17, 24, 25, 31, 32, 33, 40, 65} {
			for _, h := range []int{1, 8, 9, 16, 17, 24, 25, 33, 50} {
				alike(t, w, h, l...)
			}
		}
	}
}

func TestFramesOfAllSmallSides(t *testing.T) {
	for _, l := range [][]Part{{p(3, 2)}, {p(1, 1), p(1, 1)}, {p(2, 2), p(1, 1), p(1, 1)}, {p(3, 2), p(2, 1), p(1, 1)}, {p(4, 1), p(3, 1), p(1, 2)}} {
		for w := 1; w <= 70; w++ {
			for h := 1; h <= 40; h++ {
				alike(t, w, h, l...)
			}
		}
	}
}

func TestMixedFramesAsTheModelSays(t *testing.T) {
	mix := rand.New(rand.NewPCG(9, 1))
	l := some()
	for range 2000 {
		alike(t, 1+mix.IntN(150), 1+mix.IntN(150), l[mix.IntN(len(l))]...)
	}
}

func TestErrFrame(t *testing.T) {
	for _, side := range []int{math.MinInt, math.MinInt + 1, -8, -1, 0} {
		refused(t, api.ErrFrame, side, 8, p(1, 1))
		refused(t, api.ErrFrame, 8, side, p(1, 1))
		refused(t, api.ErrFrame, side, side, p(1, 1), p(1, 1))
		// It is named first.
		refused(t, api.ErrFrame, side, math.MaxInt, p(1, 1))
		refused(t, api.ErrFrame, math.MaxInt, side, p(1, 1))
		refused(t, api.ErrFrame, side, 8, make([]Part, 5)...)
		refused(t, api.ErrFrame, side, 8, p(4, 4), p(4, 4), p(1, 1), p(1, 1), p(1, 1))
	}
	refused(t, api.ErrFrame, 8, 8)
	refused(t, api.ErrFrame, 8, 8, []Part{}...)
	refused(t, api.ErrFrame, math.MaxInt, math.MaxInt)
	for _, n := range []int{math.MinInt, -1, 0, 5, 6, 255, 256, 257, 1 << 32, 1<<32 + 1, math.MaxInt} {
		for _, x := range []Part{p(n, 1), p(1, n), p(n, n)} {
			refused(t, api.ErrFrame, 8, 8, x)
			refused(t, api.ErrFrame, 8, 8, x, p(1, 1))
			refused(t, api.ErrFrame, 8, 8, p(1, 1), x)
			refused(t, api.ErrFrame, 8, 8, p(1, 1), p(1, 1), p(1, 1), x)
			refused(t, api.ErrFrame, api.MaxSide+1, math.MaxInt, x)
			refused(t, api.ErrFrame, 8, 8, p(4, 4), p(4, 4), p(1, 1), p(1, 1), x)
		}
	}
}

func TestErrLargeSides(t *testing.T) {
	laid(t, api.MaxSide, 1, p(1, 1))
	laid(t, 1, api.MaxSide, p(4, 4))
	laid(t, api.MaxSide, 64, p(1, 1))
	laid(t, 64, api.MaxSide, p(1, 1))
	for _, n := range []int{api.MaxSide + 1, 1 << 16, 1 << 31, 1<<32 + 1, math.MaxInt - 7, math.MaxInt} {
		refused(t, api.ErrLarge, n, 1, p(1, 1))
		refused(t, api.ErrLarge, 1, n, p(1, 1))
		refused(t, api.ErrLarge, n, n, p(2, 2), p(1, 1))
		// It is named ahead of ErrMany.
		refused(t, api.ErrLarge, n, 1, p(4, 4), p(4, 4))
		refused(t, api.ErrLarge, 1, n, slices.Repeat([]Part{p(1, 1)}, 5)...)
	}
}

func TestErrMany(t *testing.T) {
	laid(t, 1, 1, slices.Repeat([]Part{p(1, 1)}, 4)...)
	for _, n := range []int{5, 6, 100, 1 << 20} {
		refused(t, api.ErrMany, 1, 1, slices.Repeat([]Part{p(1, 1)}, n)...)
		refused(t, api.ErrMany, api.MaxSide, api.MaxSide, slices.Repeat([]Part{p(4, 4)}, n)...)
	}
	most := 0
	for i := range 1 << 16 {
		a, b, c, d := i>>12&15, i>>8&15, i>>4&15, i&15
		l := []Part{p(a/4+1, a%4+1), p(b/4+1, b%4+1), p(c/4+1, c%4+1), p(d/4+1, d%4+1)}
		for n := 1; n <= 4; n++ {
			sum := 0
			for _, x := range l[:n] {
				sum += x.H * x.V
			}
			f, e := New(1, 1, l[:n])
			if n > 1 && sum > 10 {
				if f != nil || e != api.ErrMany {
					t.Fatalf("New of %v = %v, %d", l[:n], f, e)
				}
				continue
			}
			if f == nil || e != api.OK {
				t.Fatalf("New of %v = %v, %d", l[:n], f, e)
			}
			most = max(most, f.Blocks())
		}
	}
	if most != 10 {
		t.Errorf("of a unit there were at most %d blocks", most)
	}
	// It is named ahead of too many blocks.
	refused(t, api.ErrMany, api.MaxSide, api.MaxSide, p(4, 2), p(3, 1))
}

func TestErrLargeBlocks(t *testing.T) {
	for _, x := range []struct {
		w, h int
		l    []Part
	}{
		{1024, 1024, []Part{p(1, 1)}},
		{1024, 1024, []Part{p(4, 4)}},
		{8 * 128, 8 * 128, []Part{p(2, 3)}},
		{api.MaxSide, 64, []Part{p(1, 1)}},
		{64, api.MaxSide, []Part{p(1, 1)}},
		{512, 1024, []Part{p(1, 1), p(1, 1)}},
		{512, 512, slices.Repeat([]Part{p(1, 1)}, 4)},
		{1024, 512, []Part{p(2, 2), p(2, 2)}},
		{16 * 64, 8 * 64, []Part{p(2, 1), p(2, 1)}},
		{512, 1024, []Part{p(2, 1), p(1, 1), p(1, 1)}},
	} {
		if n := laid(t, x.w, x.h, x.l...).Blocks(); n != api.MaxBlocks {
			t.Errorf("%d by %d, %v: Blocks = %d", x.w, x.h, x.l, n)
		}
		refused(t, api.ErrLarge, x.w+1, x.h, x.l...)
		refused(t, api.ErrLarge, x.w, x.h+1, x.l...)
	}
	refused(t, api.ErrLarge, api.MaxSide, api.MaxSide, p(1, 1))
	refused(t, api.ErrLarge, api.MaxSide, api.MaxSide, p(4, 2), p(1, 1), p(1, 1))
	refused(t, api.ErrLarge, api.MaxSide, 65, p(1, 1))
	// All blocks of the grids count, not those of the own parts alone, of which there are 6144 here.
	refused(t, api.ErrLarge, 1, api.MaxSide, p(4, 1), p(4, 1), p(1, 1))
}

func TestErrLargeBlocksAtEachWidth(t *testing.T) {
	for _, l := range [][]Part{{p(1, 1)}, {p(2, 2), p(1, 1), p(1, 1)}, {p(4, 2), p(1, 1), p(1, 1)}, {p(3, 1), p(2, 3)}, {p(1, 1), p(1, 1), p(1, 1), p(1, 1)}} {
		for w := 1; w <= api.MaxSide; w += 97 {
			m := newModel(w, 1, l)
			a, _ := m.units()
			in := 0
			for _, x := range m.parts {
				in += x.H * x.V
			}
			// How many rows of units have room.
			fit := min(api.MaxBlocks/(a*in)*m.unitH, api.MaxSide)
			if fit == 0 {
				refused(t, api.ErrLarge, w, 1, l...)
				continue
			}
			if f := laid(t, w, fit, l...); f.Blocks() > api.MaxBlocks {
				t.Fatalf("%d by %d, %v: Blocks = %d", w, fit, l, f.Blocks())
			}
			refused(t, api.ErrLarge, w, fit+1, l...)
		}
	}
}

func TestNewKeepsNothing(t *testing.T) {
	room := []Part{p(2, 2), p(1, 1), p(1, 1), p(3, 3)}
	l := room[:3]
	f := laid(t, 17, 9, l...)
	want := all(f, 0, 1, 2)
	f, e := New(17, 9, l)
	if e != api.OK || !slices.Equal(room, []Part{p(2, 2), p(1, 1), p(1, 1), p(3, 3)}) {
		t.Fatalf("New = %d, what was handed in became %v", e, room)
	}
	clear(room)
	if got := all(f, 0, 1, 2); !slices.Equal(got, want) {
		t.Errorf("Scan = %v, want %v", got, want)
	}
	if x, y := f.Unit(); x != 16 || y != 16 {
		t.Errorf("Unit = %d, %d", x, y)
	}
	one := []Part{p(3, 2)}
	f, _ = New(9, 9, one)
	if one[0] != p(3, 2) {
		t.Errorf("what was handed in became %v", one)
	}
	one[0] = Part{}
	if n, e := f.Count([]int{0}); n != 4 || e != api.OK {
		t.Errorf("Count = %d, %d", n, e)
	}
}

func TestGridOfNoComponent(t *testing.T) {
	for _, l := range some() {
		f := laid(t, 17, 9, l...)
		for _, c := range []int{math.MinInt, -2, -1, len(l), len(l) + 1, 4, 255, 1 << 32, math.MaxInt} {
			if g, ok := f.Grid(c); g != (Grid{}) || ok {
				t.Errorf("%v: Grid(%d) = %v, %v", l, c, g, ok)
			}
		}
	}
}

func TestNil(t *testing.T) {
	var f *Frame
	if a, d := f.Units(); a != 0 || d != 0 {
		t.Errorf("Units = %d, %d", a, d)
	}
	if w, h := f.Unit(); w != 0 || h != 0 {
		t.Errorf("Unit = %d, %d", w, h)
	}
	if n := f.Blocks(); n != 0 {
		t.Errorf("Blocks = %d", n)
	}
	for _, c := range []int{math.MinInt, -1, 0, 1, math.MaxInt} {
		if g, ok := f.Grid(c); g != (Grid{}) || ok {
			t.Errorf("Grid(%d) = %v, %v", c, g, ok)
		}
		noScan(t, f, c)
	}
	noScan(t, f)
	noScan(t, f, 0, 1)
}

// Promise 9.2: how many units a scan has. (What Count answers of all scans that
// may be is held against the model above.)

// noScan fails the test, if a scan isn't refused, or hands out anything.
func noScan(t *testing.T, f *Frame, comps ...int) {
	t.Helper()
	was := slices.Clone(comps)
	if n, e := f.Count(comps); n != 0 || e != api.ErrScan {
		t.Fatalf("Count(%v) = %d, %d", comps, n, e)
	}
	scan := f.Scan(comps)
	if scan == nil {
		t.Fatalf("Scan(%v) is nil", comps)
	}
	for n, s := range scan {
		t.Fatalf("Scan(%v) hands out %d, %v", comps, n, s)
	}
	if !slices.Equal(comps, was) {
		t.Fatalf("what was handed in was %v, and became %v", was, comps)
	}
}

func TestCount(t *testing.T) {
	f := laid(t, 33, 17, p(2, 1), p(1, 1), p(1, 3))
	for _, x := range []struct {
		comps []int
		want  int
	}{{[]int{0}, 5}, {[]int{1}, 3}, {[]int{2}, 9}, {[]int{0, 1}, 3}, {[]int{0, 2}, 3}, {[]int{1, 2}, 3}, {[]int{0, 1, 2}, 3}} {
		if n, e := f.Count(x.comps); n != x.want || e != api.OK {
			t.Errorf("Count(%v) = %d, %d, want %d", x.comps, n, e, x.want)
		}
	}
}

func TestErrScan(t *testing.T) {
	for _, l := range some() {
		f := laid(t, 17, 9, l...)
		noScan(t, f)
		noScan(t, f, []int{}...)
		for _, c := range []int{math.MinInt, -1, len(l), len(l) + 1, 1 << 32, math.MaxInt} {
			noScan(t, f, c)
			noScan(t, f, 0, c)
			noScan(t, f, c, 0)
			noScan(t, f, c, c)
		}
	}
}

func TestAllRowsOfNumbers(t *testing.T) {
	f := laid(t, 17, 9, p(2, 2), p(1, 1), p(1, 2))
	right := rows(3)
	taken := 0
	for n := range 6 {
		for i := range int(math.Pow(5, float64(n))) {
			var comps []int
			for range n {
				comps = append(comps, i%5-1)
				i /= 5
			}
			if slices.ContainsFunc(right, func(r []int) bool { return slices.Equal(r, comps) }) {
				taken++
				if _, e := f.Count(comps); e != api.OK {
					t.Errorf("Count(%v) = %d", comps, e)
				}
				continue
			}
			noScan(t, f, comps...)
		}
	}
	if taken != len(right) {
		t.Errorf("%d were taken", taken)
	}
	long := make([]int, 1<<20)
	noScan(t, f, long...)
	for i := range long {
		long[i] = i
	}
	noScan(t, f, long...)
}

// Promise 9.3: the order of a scan.

func TestScanOfSeveral(t *testing.T) {
	f := laid(t, 17, 17, p(2, 2), p(1, 1), p(1, 2))
	if got := all(f, 0, 2); !slices.Equal(got, []step{
		{0, Spot{0, 0, 0}}, {0, Spot{0, 0, 1}}, {0, Spot{0, 1, 0}}, {0, Spot{0, 1, 1}}, {0, Spot{2, 0, 0}}, {0, Spot{2, 1, 0}},
		{1, Spot{0, 0, 2}}, {1, Spot{0, 0, 3}}, {1, Spot{0, 1, 2}}, {1, Spot{0, 1, 3}}, {1, Spot{2, 0, 1}}, {1, Spot{2, 1, 1}},
		{2, Spot{0, 2, 0}}, {2, Spot{0, 2, 1}}, {2, Spot{0, 3, 0}}, {2, Spot{0, 3, 1}}, {2, Spot{2, 2, 0}}, {2, Spot{2, 3, 0}},
		{3, Spot{0, 2, 2}}, {3, Spot{0, 2, 3}}, {3, Spot{0, 3, 2}}, {3, Spot{0, 3, 3}}, {3, Spot{2, 2, 1}}, {3, Spot{2, 3, 1}},
	}) {
		t.Errorf("Scan = %v", got)
	}
}

func TestScanOfOne(t *testing.T) {
	f := laid(t, 17, 9, p(2, 2), p(1, 1), p(1, 1))
	// The grid has four columns, of which the last one isn't its own.
	if got := all(f, 0); !slices.Equal(got, []step{{0, Spot{0, 0, 0}}, {1, Spot{0, 0, 1}}, {2, Spot{0, 0, 2}}, {3, Spot{0, 1, 0}}, {4, Spot{0, 1, 1}}, {5, Spot{0, 1, 2}}}) {
		t.Errorf("Scan = %v", got)
	}
	if got := all(f, 2); !slices.Equal(got, []step{{0, Spot{2, 0, 0}}, {1, Spot{2, 0, 1}}}) {
		t.Errorf("Scan = %v", got)
	}
	f = laid(t, 9, 9, p(4, 4))
	if got := all(f, 0); !slices.Equal(got, []step{{0, Spot{0, 0, 0}}, {1, Spot{0, 0, 1}}, {2, Spot{0, 1, 0}}, {3, Spot{0, 1, 1}}}) {
		t.Errorf("Scan = %v", got)
	}
}

func TestScanLeftEarly(t *testing.T) {
	f := laid(t, 33, 33, p(2, 2), p(1, 2), p(1, 1))
	for _, comps := range rows(3) {
		want := all(f, comps...)
		scan := f.Scan(comps)
		for n := range len(want) + 1 {
			var got []step
			for i, s := range scan {
				if len(got) == n {
					break
				}
				got = append(got, step{i, s})
			}
			if !slices.Equal(got, want[:n]) {
				t.Fatalf("Scan(%v), left behind %d = %v", comps, n, got)
			}
		}
	}
}

func TestScanWithinAScan(t *testing.T) {
	f := laid(t, 17, 17, p(2, 2), p(1, 1))
	for _, comps := range rows(2) {
		want := all(f, comps...)
		scan := f.Scan(comps)
		var outer []step
		for n, s := range scan {
			var inner []step
			for n, s := range scan {
				inner = append(inner, step{n, s})
			}
			if !slices.Equal(inner, want) {
				t.Fatalf("Scan(%v) within = %v", comps, inner)
			}
			outer = append(outer, step{n, s})
		}
		if !slices.Equal(outer, want) {
			t.Fatalf("Scan(%v) = %v", comps, outer)
		}
	}
}

func TestScanKeepsNothing(t *testing.T) {
	f := laid(t, 17, 17, p(2, 2), p(1, 1), p(1, 1))
	for _, comps := range rows(3) {
		want := all(f, comps...)
		room := append(slices.Clone(comps), 7)
		scan := f.Scan(room[:len(comps)])
		if room[len(comps)] != 7 || !slices.Equal(room[:len(comps)], comps) {
			t.Fatalf("what was handed in became %v", room)
		}
		for i := range room {
			room[i] = math.MaxInt
		}
		var got []step
		for n, s := range scan {
			got = append(got, step{n, s})
			room[0] = len(got)
		}
		if !slices.Equal(got, want) {
			t.Fatalf("Scan(%v) = %v, want %v", comps, got, want)
		}
	}
	comps := []int{3}
	scan := f.Scan(comps)
	comps[0] = 1
	for n, s := range scan {
		t.Fatalf("what was refused hands out %d, %v", n, s)
	}
}

func TestScanOfAsMuchAsFits(t *testing.T) {
	for _, x := range []struct {
		w, h int
		l    []Part
	}{{1024, 1024, []Part{p(4, 4)}}, {api.MaxSide, 64, []Part{p(1, 1)}}, {64, api.MaxSide, []Part{p(1, 1)}}, {512, 512, slices.Repeat([]Part{p(1, 1)}, 4)}, {160, 4096, []Part{p(2, 2), p(1, 1), p(1, 1)}}} {
		f := laid(t, x.w, x.h, x.l...)
		m := newModel(x.w, x.h, x.l)
		for _, comps := range rows(len(x.l)) {
			if got, want := all(f, comps...), m.scan(comps); !slices.Equal(got, want) {
				t.Errorf("%v: Scan(%v) hands out %d, want %d", x, comps, len(got), len(want))
			}
		}
	}
}

// Promise 9.4: a scan of all goes through each block just once.

func TestScanOfAllComponents(t *testing.T) {
	for _, l := range some() {
		for _, side := range [][2]int{{1, 1}, {8, 8}, {9, 33}, {50, 17}, {100, 100}} {
			f := laid(t, side[0], side[1], l...)
			comps := rows(len(l))[1<<len(l)-2]
			seen := map[Spot]bool{}
			units := map[int]int{}
			last := 0
			for n, s := range f.Scan(comps) {
				g, ok := f.Grid(s.Comp)
				if seen[s] || !ok || s.Row < 0 || s.Col < 0 || s.Row >= g.Rows || s.Col >= g.Cols {
					t.Fatalf("%v, %v: Scan hands out %v", side, l, s)
				}
				if n != last && n != last+1 {
					t.Fatalf("%v, %v: the unit %d comes behind %d", side, l, n, last)
				}
				seen[s] = true
				units[n]++
				last = n
			}
			count, _ := f.Count(comps)
			if len(seen) != f.Blocks() || len(units) != count || last != count-1 {
				t.Fatalf("%v, %v: Scan hands out %d blocks, %d units", side, l, len(seen), len(units))
			}
			for n, blocks := range units {
				if blocks*count != f.Blocks() {
					t.Fatalf("%v, %v: the unit %d has %d blocks", side, l, n, blocks)
				}
			}
		}
	}
}

func TestScanOfOneComponent(t *testing.T) {
	for _, l := range some() {
		f := laid(t, 41, 27, l...)
		for c := range l {
			g, _ := f.Grid(c)
			seen := map[Spot]bool{}
			for n, s := range f.Scan([]int{c}) {
				if s.Comp != c || s.Row*g.OwnCols+s.Col != n || n != len(seen) || s.Col >= g.OwnCols || s.Row >= g.OwnRows || seen[s] {
					t.Fatalf("%v: Scan(%d) hands out %d, %v", l, c, n, s)
				}
				seen[s] = true
			}
			if n, _ := f.Count([]int{c}); n != len(seen) || n != g.OwnCols*g.OwnRows || g.OwnCols > g.Cols || g.OwnRows > g.Rows {
				t.Fatalf("%v: Scan(%d) hands out %d, Count = %d, Grid = %v", l, c, len(seen), n, g)
			}
		}
	}
}

// FuzzNew looks for frames that aren't as the model says.
func FuzzNew(f *testing.F) {
	f.Add(17, 9, []byte{2, 2, 1, 1, 1, 1})
	f.Add(api.MaxSide, 64, []byte{4, 4})
	f.Fuzz(func(t *testing.T, w, h int, factors []byte) {
		var l []Part
		for i := 0; i+1 < len(factors); i += 2 {
			l = append(l, p(int(int8(factors[i])), int(int8(factors[i+1]))))
		}
		if _, e := New(w, h, l); e == api.OK {
			alike(t, w, h, l...)
		}
	})
}
