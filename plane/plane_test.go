package plane

import (
	"math"
	"slices"
	"testing"

	"aquatint/api"
)

// grid is a plane told another way: its blocks by row and column.
type grid map[[2]int]api.Block

func gridOf(p api.Plane) grid {
	g := grid{}
	for n, b := range p.B {
		g[[2]int{n / p.Cols, n % p.Cols}] = b
	}
	return g
}

// covers tells whether a rectangle has that row and that column.
func covers(r Rect, row, col int) bool {
	return row >= r.Row && col >= r.Col && row-r.Row < r.Rows && col-r.Col < r.Cols
}

// lies tells whether a small rectangle has blocks, and all of them are those of
// a plane of that size.
func lies(r Rect, cols, rows int) bool {
	has, in := 0, 0
	for row := -6; row < 18; row++ {
		for col := -6; col < 18; col++ {
			if covers(r, row, col) {
				has++
				if row >= 0 && row < rows && col >= 0 && col < cols {
					in++
				}
			}
		}
	}
	return has > 0 && has == in
}

// rects hands out all rectangles about a plane of that size, and some that have
// no row or no column.
func rects(cols, rows int, do func(Rect)) {
	for row := -2; row <= rows+1; row++ {
		for col := -2; col <= cols+1; col++ {
			for h := -1; h <= rows+2; h++ {
				for w := -1; w <= cols+2; w++ {
					do(Rect{Row: row, Col: col, Rows: h, Cols: w})
				}
			}
		}
	}
}

// sides are the sizes that most tests go through.
var sides = [][2]int{{1, 1}, {1, 3}, {3, 1}, {2, 2}, {3, 2}, {2, 3}, {4, 3}, {4, 4}}

// apart are rectangles far out.
func apart() []Rect {
	var out []Rect
	for _, x := range far {
		for _, y := range append([]int{0, 1}, far...) {
			out = append(out,
				Rect{Row: x, Rows: y, Cols: 1}, Rect{Row: y, Rows: x, Cols: 1},
				Rect{Col: x, Rows: 1, Cols: y}, Rect{Col: y, Rows: 1, Cols: x},
				Rect{Row: x, Col: y, Rows: 1, Cols: 1}, Rect{Row: y, Col: x, Rows: x, Cols: y}, Rect{Rows: x, Cols: y})
		}
	}
	// Ends that are within only where they wrap round.
	return append(out, Rect{Row: math.MaxInt, Rows: math.MinInt, Cols: 1}, Rect{Row: 1, Rows: math.MaxInt, Cols: 1}, Rect{Row: math.MaxInt, Rows: 1, Cols: 1}, Rect{Col: 1, Rows: 1, Cols: math.MaxInt}, Rect{Col: math.MaxInt, Rows: 1, Cols: 1})
}

// Promise 10.2: windows, paint, blocks in other places.

func TestExampleOfTheChapter(t *testing.T) {
	w, e := Window(filled(3, 2), Rect{1, 1, 1, 2})
	if e != api.OK || !like(w, api.Plane{Cols: 2, Rows: 1, B: []api.Block{block(4), block(5)}}) {
		t.Errorf("Window = %v, %d", w, e)
	}
}

func TestWindow(t *testing.T) {
	for _, s := range sides {
		p := filled(s[0], s[1])
		rects(s[0], s[1], func(r Rect) {
			w, e := Window(p, r)
			if !lies(r, s[0], s[1]) {
				if e != api.ErrRect || !like(w, api.Plane{}) {
					t.Errorf("%v: Window(%v) = %v, %d", s, r, w, e)
				}
				return
			}
			if e != api.OK || !Right(w) || w.Cols != r.Cols || w.Rows != r.Rows {
				t.Fatalf("%v: Window(%v) = %v, %d", s, r, w, e)
			}
			for at, b := range gridOf(w) {
				if b != gridOf(p)[[2]int{r.Row + at[0], r.Col + at[1]}] {
					t.Errorf("%v: Window(%v) has %v at %v", s, r, b, at)
				}
			}
		})
		if !like(p, filled(s[0], s[1])) {
			t.Errorf("what was handed in became %v", p)
		}
	}
}

func TestPaint(t *testing.T) {
	for _, s := range sides {
		p := filled(s[0], s[1])
		rects(s[0], s[1], func(r Rect) {
			q, e := Paint(p, r, block(99))
			if !lies(r, s[0], s[1]) {
				if e != api.ErrRect || !like(q, api.Plane{}) {
					t.Errorf("%v: Paint(%v) = %v, %d", s, r, q, e)
				}
				return
			}
			if e != api.OK || !Right(q) || q.Cols != p.Cols || q.Rows != p.Rows {
				t.Fatalf("%v: Paint(%v) = %v, %d", s, r, q, e)
			}
			for at, b := range gridOf(q) {
				want := gridOf(p)[at]
				if covers(r, at[0], at[1]) {
					want = block(99)
				}
				if b != want {
					t.Errorf("%v: Paint(%v) has %v at %v", s, r, b, at)
				}
			}
		})
		if !like(p, filled(s[0], s[1])) {
			t.Errorf("what was handed in became %v", p)
		}
	}
}

func TestWindowAndPaintRefused(t *testing.T) {
	for _, s := range sides {
		p := filled(s[0], s[1])
		for _, r := range apart() {
			if w, e := Window(p, r); e != api.ErrRect || !like(w, api.Plane{}) {
				t.Errorf("%v: Window(%v) = %v, %d", s, r, w, e)
			}
			if q, e := Paint(p, r, block(99)); e != api.ErrRect || !like(q, api.Plane{}) {
				t.Errorf("%v: Paint(%v) = %v, %d", s, r, q, e)
			}
		}
	}
	for _, p := range wrong() {
		// It is named first.
		for _, r := range []Rect{{}, {Rows: 1, Cols: 1}, {Rows: p.Rows, Cols: p.Cols}, {Row: -1, Col: -1, Rows: 1, Cols: 1}, {Rows: math.MaxInt, Cols: math.MaxInt}} {
			if w, e := Window(p, r); e != api.ErrArg || !like(w, api.Plane{}) {
				t.Errorf("%d by %d: Window(%v) = %v, %d", p.Cols, p.Rows, r, w, e)
			}
			if q, e := Paint(p, r, block(99)); e != api.ErrArg || !like(q, api.Plane{}) {
				t.Errorf("%d by %d: Paint(%v) = %v, %d", p.Cols, p.Rows, r, q, e)
			}
		}
	}
}

func TestGreatWindowAndPaint(t *testing.T) {
	for _, s := range [][2]int{{api.MaxBlocks, 1}, {1, api.MaxBlocks}, {128, 128}} {
		p := filled(s[0], s[1])
		whole := Rect{Rows: s[1], Cols: s[0]}
		if w, e := Window(p, whole); e != api.OK || !like(w, p) {
			t.Errorf("%v: Window = %d", s, e)
		}
		last := Rect{Row: s[1] - 1, Col: s[0] - 1, Rows: 1, Cols: 1}
		if w, e := Window(p, last); e != api.OK || !slices.Equal(w.B, p.B[api.MaxBlocks-1:]) {
			t.Errorf("%v: Window of the last one = %v, %d", s, w, e)
		}
		q, e := Paint(p, whole, block(5))
		if e != api.OK || slices.ContainsFunc(q.B, func(b api.Block) bool { return b != block(5) }) || len(q.B) != api.MaxBlocks {
			t.Errorf("%v: Paint = %d", s, e)
		}
	}
}

func TestMoved(t *testing.T) {
	for _, s := range sides {
		p := filled(s[0], s[1])
		for cols := 1; cols <= 4; cols++ {
			for rows := 1; rows <= 4; rows++ {
				// Any block may come many times, or not at all.
				from := func(row, col int) (int, int) { return (3*row + col + 1) % s[1], (row + 2*col) % s[0] }
				m, e := Moved(p, cols, rows, from)
				if e != api.OK || m.Cols != cols || m.Rows != rows || !Right(m) {
					t.Fatalf("%v: Moved to %d by %d = %v, %d", s, cols, rows, m, e)
				}
				for at, b := range gridOf(m) {
					row, col := from(at[0], at[1])
					if b != gridOf(p)[[2]int{row, col}] {
						t.Errorf("%v: Moved to %d by %d has %v at %v", s, cols, rows, b, at)
					}
				}
			}
		}
		if !like(p, filled(s[0], s[1])) {
			t.Errorf("what was handed in became %v", p)
		}
	}
}

func TestMovedThereAndBack(t *testing.T) {
	for _, s := range sides {
		p := filled(s[0], s[1])
		m, e := Moved(p, s[1], s[0], func(row, col int) (int, int) { return col, row })
		if e != api.OK || m.Cols != p.Rows || m.Rows != p.Cols || s[0] > 1 && m.B[p.Rows] != p.B[1] {
			t.Errorf("%v: Moved = %v, %d", s, m, e)
		}
		if back, e := Moved(m, s[0], s[1], func(row, col int) (int, int) { return col, row }); e != api.OK || !like(back, p) {
			t.Errorf("%v: Moved back = %v, %d", s, back, e)
		}
		if same, e := Moved(p, s[0], s[1], func(row, col int) (int, int) { return row, col }); e != api.OK || !like(same, p) {
			t.Errorf("%v: Moved to the same places = %v, %d", s, same, e)
		}
	}
}

func TestMovedAsksRowByRow(t *testing.T) {
	for _, s := range sides {
		var asked [][2]int
		if _, e := Moved(filled(1, 1), s[0], s[1], func(row, col int) (int, int) {
			asked = append(asked, [2]int{row, col})
			return 0, 0
		}); e != api.OK {
			t.Errorf("%v: Moved = %d", s, e)
		}
		var want [][2]int
		for n := range s[0] * s[1] {
			want = append(want, [2]int{n / s[0], n % s[0]})
		}
		if !slices.Equal(asked, want) {
			t.Errorf("%v: it asked %v", s, asked)
		}
	}
}

func TestMovedGreat(t *testing.T) {
	p := filled(128, 128)
	for _, s := range [][2]int{{api.MaxBlocks, 1}, {1, api.MaxBlocks}, {64, 256}} {
		m, e := Moved(p, s[0], s[1], func(row, col int) (int, int) {
			n := row*s[0] + col
			return n / 128, n % 128
		})
		if e != api.OK || m.Cols != s[0] || m.Rows != s[1] || !slices.Equal(m.B, p.B) {
			t.Errorf("%v: Moved = %d", s, e)
		}
	}
}

func TestMovedFromWhereThereIsNoBlock(t *testing.T) {
	places := [][2]int{{-1, 0}, {0, -1}, {2, 0}, {0, 3}, {2, 3}, {1, 3}, {-1, 3}, {2, -1}, {1, -1}, {0, 5}}
	for _, x := range far {
		places = append(places, [2]int{x, 0}, [2]int{0, x}, [2]int{x, x}, [2]int{x, -x})
	}
	for _, at := range places {
		for bad := range 12 {
			asked := 0
			m, e := Moved(filled(3, 2), 4, 3, func(row, col int) (int, int) {
				asked++
				if row*4+col == bad {
					return at[0], at[1]
				}
				return 1, 2
			})
			if e != api.ErrRect || !like(m, api.Plane{}) {
				t.Errorf("Moved from %v = %v, %d", at, m, e)
			}
			if asked <= bad {
				t.Errorf("it asked %d times", asked)
			}
		}
	}
}

func TestMovedRefused(t *testing.T) {
	ask := func(row, col int) (int, int) {
		t.Errorf("what is refused asks for %d, %d", row, col)
		return -1, -1
	}
	refused := func(p api.Plane, cols, rows int, want api.Errno) {
		t.Helper()
		if m, e := Moved(p, cols, rows, ask); e != want || !like(m, api.Plane{}) {
			t.Errorf("%d by %d: Moved to %d by %d = %v, %d, want %d", p.Cols, p.Rows, cols, rows, m, e, want)
		}
	}
	for _, p := range wrong() {
		// It is named first.
		for _, s := range [][2]int{{1, 1}, {p.Cols, p.Rows}, {0, 0}, {api.MaxBlocks, 2}, {math.MaxInt, math.MaxInt}} {
			refused(p, s[0], s[1], api.ErrArg)
		}
	}
	p := filled(3, 2)
	for _, n := range append([]int{0}, far...) {
		for _, m := range append([]int{-1, 0, 1, 2}, far...) {
			want := api.ErrArg
			if n >= 1 && m >= 1 {
				want = api.ErrLarge
			}
			if n == api.MaxBlocks && m == 1 {
				continue
			}
			refused(p, n, m, want)
			refused(p, m, n, want)
		}
	}
	refused(p, 129, 128, api.ErrLarge)
	refused(p, 128, 129, api.ErrLarge)
}

func TestMovedByNothing(t *testing.T) {
	for _, p := range []api.Plane{filled(3, 2), {}} {
		if m, e := Moved(p, 1, 1, nil); e != api.ErrArg || !like(m, api.Plane{}) {
			t.Errorf("Moved = %v, %d", m, e)
		}
	}
}

func TestMovedWhileThePlaneChanges(t *testing.T) {
	p := filled(3, 2)
	m, e := Moved(p, 3, 2, func(row, col int) (int, int) {
		clear(p.B)
		return row, col
	})
	if e != api.OK || !like(m, filled(3, 2)) {
		t.Errorf("Moved = %v, %d", m, e)
	}
}

func TestAnswersShareNothing(t *testing.T) {
	mirror := func(row, col int) (int, int) { return row, 2 - col }
	whole := Rect{Rows: 2, Cols: 3}
	for i, call := range []func(api.Plane) (api.Plane, api.Errno){
		func(p api.Plane) (api.Plane, api.Errno) { return Window(p, whole) },
		func(p api.Plane) (api.Plane, api.Errno) { return Window(p, Rect{Row: 1, Rows: 1, Cols: 3}) },
		func(p api.Plane) (api.Plane, api.Errno) { return Window(p, Rect{Col: 1, Rows: 2, Cols: 1}) },
		func(p api.Plane) (api.Plane, api.Errno) { return Paint(p, whole, block(9)) },
		func(p api.Plane) (api.Plane, api.Errno) {
			return Paint(p, Rect{Row: 1, Col: 1, Rows: 1, Cols: 1}, block(9))
		},
		func(p api.Plane) (api.Plane, api.Errno) { return Moved(p, 3, 2, mirror) },
	} {
		room := append(filled(3, 2).B, block(6), block(7))
		p := api.Plane{Cols: 3, Rows: 2, B: room[:6]}
		a, _ := call(p)
		b, e := call(p)
		if e != api.OK || !like(a, b) {
			t.Errorf("%d: %v and %v, %d", i, a, b, e)
		}
		all := a.B[:cap(a.B)]
		for n := range all {
			all[n] = block(70)
		}
		for n := range room {
			if room[n] != block(n) {
				t.Errorf("%d: what was handed in became %v at %d", i, room[n], n)
			}
		}
		if c, _ := call(p); !like(b, c) {
			t.Errorf("%d: it was %v, and is %v", i, c, b)
		}
		was := slices.Clone(b.B)
		clear(room)
		if !slices.Equal(b.B, was) {
			t.Errorf("%d: what was handed in was written into, and the answer is %v", i, b)
		}
	}
}

// Promise 10.3: each block, row by row.

// step is what All hands out at a time.
type step struct {
	R Rect
	B api.Block
}

// steps are what All hands out of a plane whose blocks are all different.
func steps(cols, rows int) []step {
	var out []step
	for n := range cols * rows {
		out = append(out, step{Rect{Row: n / cols, Col: n % cols, Rows: 1, Cols: 1}, block(n)})
	}
	return out
}

func TestAll(t *testing.T) {
	for _, s := range append(sides, [][2]int{{1, api.MaxBlocks}, {api.MaxBlocks, 1}, {127, 129}}...) {
		p := filled(s[0], s[1])
		scan := All(p)
		// Each time that it is gone over.
		for range 2 {
			var got []step
			for r, b := range scan {
				got = append(got, step{r, b})
			}
			if !slices.Equal(got, steps(s[0], s[1])) {
				t.Errorf("%v: All hands out %d", s, len(got))
			}
		}
		if !like(p, filled(s[0], s[1])) {
			t.Errorf("what was handed in became %v", p)
		}
	}
}

func TestAllOfPlanesThatArentRight(t *testing.T) {
	for _, p := range wrong() {
		scan := All(p)
		if scan == nil {
			t.Fatalf("%d by %d: All is nil", p.Cols, p.Rows)
		}
		for r, b := range scan {
			t.Fatalf("%d by %d: All hands out %v, %v", p.Cols, p.Rows, r, b)
		}
	}
}

func TestAllLeftEarly(t *testing.T) {
	want := steps(3, 2)
	scan := All(filled(3, 2))
	for n := range 7 {
		var got []step
		for r, b := range scan {
			if len(got) == n {
				break
			}
			got = append(got, step{r, b})
		}
		if !slices.Equal(got, want[:n]) {
			t.Errorf("left behind %d, All hands out %v", n, got)
		}
	}
}

func TestAllWithinAll(t *testing.T) {
	scan := All(filled(2, 2))
	var outer []step
	for r, b := range scan {
		var inner []step
		for r, b := range scan {
			inner = append(inner, step{r, b})
		}
		if !slices.Equal(inner, steps(2, 2)) {
			t.Errorf("All within = %v", inner)
		}
		outer = append(outer, step{r, b})
	}
	if !slices.Equal(outer, steps(2, 2)) {
		t.Errorf("All = %v", outer)
	}
}

func TestAllKeepsNothing(t *testing.T) {
	p := filled(3, 2)
	scan := All(p)
	p.B[5] = block(99)
	var got []step
	for r, b := range scan {
		clear(p.B)
		got = append(got, step{r, b})
	}
	if !slices.Equal(got, steps(3, 2)) {
		t.Errorf("All = %v", got)
	}
	// What wasn't right when it was handed in doesn't become so.
	q := api.Plane{Cols: 1, Rows: 1, B: []api.Block{{1}, {2}}}
	scan = All(q)
	q.B = q.B[:1]
	for r, b := range scan {
		t.Errorf("All hands out %v, %v", r, b)
	}
}

// Promise 10.4: paint, and windows of windows.

func TestPaintedWithinAndAsItWasWithout(t *testing.T) {
	for _, s := range sides {
		p := filled(s[0], s[1])
		rects(s[0], s[1], func(r Rect) {
			q, e := Paint(p, r, block(99))
			if e != api.OK {
				return
			}
			w, _ := Window(q, r)
			if slices.ContainsFunc(w.B, func(b api.Block) bool { return b != block(99) }) || len(w.B) != r.Rows*r.Cols {
				t.Errorf("%v: painted %v, the window has %v", s, r, w)
			}
			// What is painted as it was is as it was.
			for at, b := range All(p) {
				if covers(r, at.Row, at.Col) {
					q, _ = Paint(q, at, b)
				}
			}
			if !like(q, p) {
				t.Errorf("%v: painted %v and back: %v", s, r, q)
			}
		})
	}
}

func TestWindowOfAWindow(t *testing.T) {
	for _, s := range sides {
		p := filled(s[0], s[1])
		rects(s[0], s[1], func(r Rect) {
			w, e := Window(p, r)
			if e != api.OK {
				return
			}
			rects(r.Cols, r.Rows, func(q Rect) {
				got, e := Window(w, q)
				if e != api.OK {
					return
				}
				want, e := Window(p, Rect{Row: r.Row + q.Row, Col: r.Col + q.Col, Rows: q.Rows, Cols: q.Cols})
				if e != api.OK || !like(got, want) {
					t.Errorf("%v: Window(%v) of Window(%v) = %v, want %v, %d", s, q, r, got, want, e)
				}
			})
		})
	}
}

// FuzzWindow looks for rectangles that aren't cut out or painted as the model
// says.
func FuzzWindow(f *testing.F) {
	f.Add(3, 2, 1, 1, 1, 2)
	f.Add(4, 4, math.MaxInt, 1, math.MinInt, 2)
	f.Fuzz(func(t *testing.T, cols, rows, row, col, h, w int) {
		if cols < 1 || rows < 1 || cols > 12 || rows > 12 {
			return
		}
		p := filled(cols, rows)
		r := Rect{Row: row, Col: col, Rows: h, Cols: w}
		got, e := Window(p, r)
		painted, e2 := Paint(p, r, api.Block{})
		in := 0
		for n := range p.B {
			if covers(r, n/cols, n%cols) {
				in++
			}
		}
		if right := row >= 0 && col >= 0 && h >= 1 && w >= 1 && h <= rows && w <= cols && in == h*w; right != (e == api.OK) || e != e2 {
			t.Fatalf("%d by %d: %v: %d, %d", cols, rows, r, e, e2)
		} else if !right {
			return
		}
		for n, b := range got.B {
			at := (row+n/w)*cols + col + n%w
			if b != p.B[at] || painted.B[at] != (api.Block{}) {
				t.Fatalf("%d by %d: Window(%v) = %v", cols, rows, r, got)
			}
		}
	})
}
