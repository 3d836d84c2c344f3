package image

import (
	"slices"
	"strings"
	"testing"

	"aquatint/api"
	"aquatint/frame"
)

// Promise 11.1: frames, the same images, copies, sizes.

// sameFrame tells whether two frames answer the same.
func sameFrame(a, b *frame.Frame, comps int) bool {
	if (a == nil) != (b == nil) {
		return false
	}
	ax, ay := a.Units()
	bx, by := b.Units()
	aw, ah := a.Unit()
	bw, bh := b.Unit()
	if ax != bx || ay != by || aw != bw || ah != bh || a.Blocks() != b.Blocks() {
		return false
	}
	for i := -1; i <= comps; i++ {
		g, ok := a.Grid(i)
		h, ok2 := b.Grid(i)
		if g != h || ok != ok2 {
			return false
		}
	}
	return true
}

func TestFrame(t *testing.T) {
	one := frame.Part{H: 1, V: 1}
	l := append(shapes(), great()...)
	for _, x := range append([]int{0, api.MaxSide + 1}, far...) {
		l = append(l, shape{x, 9, photo.parts}, shape{17, x, photo.parts}, shape{x, x, photo.parts})
		l = append(l, shape{17, 9, []frame.Part{{H: x, V: 1}, one}}, shape{17, 9, []frame.Part{one, {H: 1, V: x}}}, shape{17, 9, []frame.Part{{H: x, V: x}}})
	}
	l = append(l, shape{17, 9, nil}, shape{17, 9, slices.Repeat([]frame.Part{one}, 5)}, shape{17, 9, []frame.Part{{H: 3, V: 3}, one, one}}, shape{1025, 1024, []frame.Part{one}}, shape{1032, 1024, []frame.Part{one}})
	for _, s := range l {
		want, e := frame.New(s.w, s.h, s.parts)
		m := api.Image{W: s.w, H: s.h}
		// Whatever else it has.
		for i, p := range s.parts {
			m.Comps = append(m.Comps, api.Comp{Id: -i, H: p.H, V: p.V, Q: 9 * i, P: api.Plane{Cols: i}})
		}
		m.Quants = []api.Quant{{At: -1}}
		m.Tags = make([]api.Tag, 70)
		if f, got := Frame(m); got != e || !sameFrame(f, want, len(s.parts)) {
			t.Errorf("%v: Frame = %v, %d, want %v, %d", s, f, got, want, e)
		}
		if e != api.OK {
			if got := Right(m); got != e {
				t.Errorf("%v: Right = %d, want %d", s, got, e)
			}
		}
	}
}

func TestFrameKeepsNothing(t *testing.T) {
	m := roomy(photo.made())
	f, _ := Frame(m)
	scribble(m)
	want, _ := frame.New(photo.w, photo.h, photo.parts)
	if !sameFrame(f, want, 3) {
		t.Errorf("Frame = %v", f)
	}
	got := 0
	for range f.Scan([]int{0, 1, 2}) {
		got++
	}
	if got != 12 {
		t.Errorf("%d blocks", got)
	}
}

// changes make a photo another one, each in one thing.
func changes() []func(m *api.Image) {
	l := []func(m *api.Image){
		func(m *api.Image) { m.W++ },
		func(m *api.Image) { m.H++ },
		func(m *api.Image) { m.Comps = m.Comps[:2] },
		func(m *api.Image) { m.Comps = nil },
		func(m *api.Image) { m.Comps = append(m.Comps, api.Comp{}) },
		func(m *api.Image) { m.Comps[0], m.Comps[1] = m.Comps[1], m.Comps[0] },
		func(m *api.Image) { m.Quants = m.Quants[:1] },
		func(m *api.Image) { m.Quants = m.Quants[1:] },
		func(m *api.Image) { m.Quants = nil },
		func(m *api.Image) { m.Quants = append(m.Quants, api.Quant{}) },
		func(m *api.Image) { m.Quants[0], m.Quants[1] = m.Quants[1], m.Quants[0] },
		func(m *api.Image) { m.Tags = m.Tags[:3] },
		func(m *api.Image) { m.Tags = m.Tags[1:] },
		func(m *api.Image) { m.Tags = nil },
		func(m *api.Image) { m.Tags = append(m.Tags, api.Tag{}) },
		func(m *api.Image) { m.Tags[0], m.Tags[3] = m.Tags[3], m.Tags[0] },
	}
	for i := range 3 {
		l = append(l,
			func(m *api.Image) { m.Comps[i].Id++ },
			func(m *api.Image) { m.Comps[i].H++ },
			func(m *api.Image) { m.Comps[i].V++ },
			func(m *api.Image) { m.Comps[i].Q++ },
			func(m *api.Image) { m.Comps[i].P.Cols++ },
			func(m *api.Image) { m.Comps[i].P.Rows++ },
			func(m *api.Image) { m.Comps[i].P.B = m.Comps[i].P.B[1:] },
			func(m *api.Image) { m.Comps[i].P.B = nil },
			func(m *api.Image) { m.Comps[i].P.B = append(m.Comps[i].P.B, api.Block{}) },
			func(m *api.Image) { b := m.Comps[i].P.B; b[0], b[1] = b[1], b[0] },
		)
		for k := range 64 {
			l = append(l, func(m *api.Image) { m.Comps[i].P.B[1][k]++ })
		}
	}
	for i := range 2 {
		l = append(l, func(m *api.Image) { m.Quants[i].At++ })
		for k := range 64 {
			l = append(l, func(m *api.Image) { m.Quants[i].Q[k]++ })
		}
	}
	for i := range 4 {
		l = append(l, func(m *api.Image) { m.Tags[i].Kind++ }, func(m *api.Image) { m.Tags[i].Body += "x" })
	}
	for i := range 2 {
		l = append(l, func(m *api.Image) { m.Tags[i].Body = "?" + m.Tags[i].Body[1:] })
	}
	return l
}

func TestSame(t *testing.T) {
	for _, s := range append(shapes(), great()...) {
		if !Same(s.made(), s.made()) {
			t.Errorf("%v: an image isn't the same", s)
		}
	}
	for i, do := range changes() {
		m := photo.made()
		do(&m)
		if Same(m, photo.made()) || Same(photo.made(), m) {
			t.Errorf("%d: Same is true", i)
		}
		if !Same(m, m) || !Same(m, Copy(m)) {
			t.Errorf("%d: an image isn't the same", i)
		}
	}
	for _, x := range faults() {
		m, n := photo.made(), photo.made()
		x.do(&m)
		x.do(&n)
		if !Same(m, n) {
			t.Errorf("%s: an image isn't the same", x.name)
		}
	}
}

func TestSameOfListsWithoutElements(t *testing.T) {
	empty := api.Image{Comps: []api.Comp{}, Quants: []api.Quant{}, Tags: []api.Tag{}}
	room := api.Image{Comps: make([]api.Comp, 0, 3), Quants: make([]api.Quant, 0, 3), Tags: make([]api.Tag, 0, 3)}
	if !Same(api.Image{}, empty) || !Same(empty, api.Image{}) || !Same(empty, room) {
		t.Errorf("Same is false")
	}
	a := api.Image{Comps: []api.Comp{{P: api.Plane{B: []api.Block{}}}}}
	b := api.Image{Comps: []api.Comp{{}}}
	if !Same(a, b) || !Same(b, a) {
		t.Errorf("Same is false of planes without blocks")
	}
	if Same(a, empty) || Same(empty, a) {
		t.Errorf("Same is true")
	}
	if m := roomy(photo.made()); !Same(m, photo.made()) {
		t.Errorf("spare room counts")
	}
}

// others are images of all kinds: right ones, and ones that aren't.
func others() []api.Image {
	var l []api.Image
	for _, s := range append(shapes(), great()...) {
		l = append(l, s.made())
	}
	for _, x := range faults() {
		m := photo.made()
		x.do(&m)
		l = append(l, m)
	}
	for _, do := range changes() {
		m := photo.made()
		do(&m)
		l = append(l, m)
	}
	return append(l,
		api.Image{Comps: make([]api.Comp, 9), Quants: make([]api.Quant, 9), Tags: make([]api.Tag, 99)},
		api.Image{Comps: []api.Comp{}, Quants: []api.Quant{}, Tags: []api.Tag{}})
}

func TestCopy(t *testing.T) {
	for i, m := range others() {
		m = roomy(m)
		was := spare(m)
		a, b := Copy(m), Copy(m)
		if !like(a, m) || !like(b, m) || !Same(a, m) {
			t.Fatalf("%d: Copy = %v of %v", i, a, m)
		}
		if Right(a) != Right(m) {
			t.Errorf("%d: Right of the copy is %d, not %d", i, Right(a), Right(m))
		}
		scribble(a)
		if !like(b, m) || !like(spare(m), was) {
			t.Errorf("%d: written into a copy, the image is %v, another copy %v", i, m, b)
		}
		c := Copy(b)
		scribble(m)
		if !like(b, c) || len(m.Comps) > 0 && Same(m, b) {
			t.Errorf("%d: written into the image, its copy is %v", i, b)
		}
	}
}

func TestSize(t *testing.T) {
	for _, s := range append(shapes(), great()...) {
		m := s.made()
		want := 64 + (4 + 5) + (4 + 6) + 4 + (4 + 2)
		for i := range s.parts {
			cols, rows := s.grid(i)
			want += 16 + 128*cols*rows
		}
		for range s.quants() {
			want += 132
		}
		if n, e := Size(m); e != api.OK || n != want {
			t.Errorf("%v: Size = %d, %d, want %d", s, n, e, want)
		}
		m.Tags = nil
		if n, e := Size(m); e != api.OK || n != want-29 {
			t.Errorf("%v: Size without tags = %d, %d", s, n, e)
		}
		m.Tags = slices.Repeat([]api.Tag{{Kind: 0xfe, Body: strings.Repeat("x", api.MaxTag)}}, api.MaxTags)
		if n, e := Size(m); e != api.OK || n != want-29+64*(4+65533) {
			t.Errorf("%v: Size of many tags = %d, %d", s, n, e)
		}
	}
	for _, x := range faults() {
		m := photo.made()
		x.do(&m)
		if n, e := Size(m); e != x.want || n != 0 {
			t.Errorf("%s: Size = %d, %d, want %d", x.name, n, e, x.want)
		}
	}
}

// Promise 11.2: tables, blank images.

func TestTable(t *testing.T) {
	for _, s := range shapes() {
		m := s.made()
		for at := range 4 {
			want := slices.ContainsFunc(s.quants(), func(q api.Quant) bool { return q.At == at })
			q, ok := Table(m, at)
			if ok != want || want && q != numbers(at) || !want && q != [64]uint16{} {
				t.Errorf("%v: Table(%d) = %v, %t", s, at, q, ok)
			}
		}
		for _, at := range append([]int{4, 5, 256}, far...) {
			if q, ok := Table(m, at); ok || q != [64]uint16{} {
				t.Errorf("%v: Table(%d) = %v, %t", s, at, q, ok)
			}
		}
	}
}

func TestTableOfImagesThatArentRight(t *testing.T) {
	m := api.Image{Quants: []api.Quant{{At: 2, Q: numbers(2)}, {At: -1, Q: numbers(1)}, {At: 2, Q: numbers(3)}, {At: 1 << 40, Q: [64]uint16{}}, {At: 0}, {At: 0, Q: numbers(1)}}}
	for _, x := range []struct {
		at   int
		want [64]uint16
		ok   bool
	}{
		{2, numbers(2), true},
		{-1, numbers(1), true},
		{1 << 40, [64]uint16{}, true},
		{0, [64]uint16{}, true},
		{1, [64]uint16{}, false},
		{3, [64]uint16{}, false},
	} {
		if q, ok := Table(m, x.at); ok != x.ok || q != x.want {
			t.Errorf("Table(%d) = %v, %t", x.at, q, ok)
		}
	}
	if q, ok := Table(api.Image{}, 0); ok || q != [64]uint16{} {
		t.Errorf("Table of nothing = %v, %t", q, ok)
	}
}

func TestExampleOfTheChapter(t *testing.T) {
	q := api.Quant{}
	for k := range q.Q {
		q.Q[k] = 1
	}
	m, e := Blank(9, 8, []api.Comp{{H: 1, V: 1}}, []api.Quant{q})
	if e != api.OK || len(m.Comps) != 1 || len(m.Comps[0].P.B) != 2 {
		t.Fatalf("Blank = %v, %d", m, e)
	}
	if n, e := Size(m); e != api.OK || n != 64+16+132+256 {
		t.Errorf("Size = %d, %d", n, e)
	}
}

// blank is the image of noughts of a shape.
func (s shape) blank() api.Image {
	m := s.made()
	for _, c := range m.Comps {
		clear(c.P.B)
	}
	m.Tags = nil
	return m
}

func TestBlank(t *testing.T) {
	for _, s := range append(shapes(), great()...) {
		m, e := Blank(s.w, s.h, s.comps(), s.quants())
		if e != api.OK || Right(m) != api.OK || !like(m, s.blank()) {
			t.Errorf("%v: Blank = %d", s, e)
		}
		// The planes of what is handed in don't count.
		for _, p := range []api.Plane{{Cols: -1}, {Cols: 1, Rows: 1}, {B: make([]api.Block, 3)}, {Cols: 1, Rows: 1, B: []api.Block{{2000, 2000}}}} {
			comps := s.comps()
			for i := range comps {
				comps[i].P = p
			}
			if m, e := Blank(s.w, s.h, comps, s.quants()); e != api.OK || !like(m, s.blank()) {
				t.Errorf("%v: Blank with planes = %d", s, e)
			}
		}
		if m, e := Blank(s.w, s.h, s.made().Comps, s.quants()); e != api.OK || !like(m, s.blank()) {
			t.Errorf("%v: Blank with planes that are right = %d", s, e)
		}
	}
}

func TestBlankRefused(t *testing.T) {
	type args struct {
		w, h   int
		comps  []api.Comp
		quants []api.Quant
	}
	for i, x := range []struct {
		do   func(a *args)
		want api.Errno
	}{
		{func(a *args) { a.w = 0 }, api.ErrFrame},
		{func(a *args) { a.h = -1 }, api.ErrFrame},
		{func(a *args) { a.w = api.MaxSide + 1 }, api.ErrLarge},
		{func(a *args) { a.w, a.h = 8192, 8192 }, api.ErrLarge},
		{func(a *args) { a.comps = nil }, api.ErrFrame},
		{func(a *args) { a.comps[0].H = 0 }, api.ErrFrame},
		{func(a *args) { a.comps[2].V = 5 }, api.ErrFrame},
		{func(a *args) { a.comps[0].H = 4; a.comps[0].V = 3 }, api.ErrMany},
		{func(a *args) { a.comps = slices.Repeat(a.comps, 2) }, api.ErrMany},
		{func(a *args) { a.comps[0].Id = 256 }, api.ErrFrame},
		{func(a *args) { a.comps[0].Id = a.comps[1].Id }, api.ErrFrame},
		{func(a *args) { a.comps[2].Q = 4 }, api.ErrFrame},
		{func(a *args) { a.comps[2].Q = 0 }, api.ErrTable},
		{func(a *args) { a.quants = nil }, api.ErrTable},
		{func(a *args) { a.quants = a.quants[1:] }, api.ErrTable},
		{func(a *args) { a.quants[0].Q[5] = 0 }, api.ErrTable},
		{func(a *args) { a.quants = slices.Repeat(a.quants, 2) }, api.ErrTable},
		{func(a *args) { a.quants = append(a.quants, api.Quant{At: 4, Q: numbers(1)}) }, api.ErrTable},
		// The first error counts.
		{func(a *args) { a.w = api.MaxSide + 1; a.comps[0].Id = 256; a.quants = nil }, api.ErrLarge},
		{func(a *args) { a.comps[0].Id = 256; a.quants = nil }, api.ErrFrame},
		{func(a *args) { *a = args{} }, api.ErrFrame},
	} {
		a := args{photo.w, photo.h, photo.comps(), photo.quants()}
		x.do(&a)
		if m, e := Blank(a.w, a.h, a.comps, a.quants); e != x.want || !like(m, api.Image{}) {
			t.Errorf("%d: Blank = %v, %d, want %d", i, m, e, x.want)
		}
	}
	for _, x := range far {
		for _, s := range [][2]int{{x, 9}, {17, x}, {x, x}} {
			_, want := frame.New(s[0], s[1], photo.parts)
			if m, e := Blank(s[0], s[1], photo.comps(), photo.quants()); e != want || e == api.OK || !like(m, api.Image{}) {
				t.Errorf("%v: Blank = %v, %d, want %d", s, m, e, want)
			}
		}
	}
}

func TestBlankSharesNothing(t *testing.T) {
	in := roomy(photo.made())
	was := spare(in)
	a, _ := Blank(photo.w, photo.h, in.Comps, in.Quants)
	b, e := Blank(photo.w, photo.h, in.Comps, in.Quants)
	scribble(a)
	if e != api.OK || !like(b, photo.blank()) {
		t.Errorf("Blank = %v, %d", b, e)
	}
	if !like(in, photo.made()) || !like(spare(in), was) {
		t.Errorf("what was handed in became %v", in)
	}
	scribble(in)
	if !like(b, photo.blank()) {
		t.Errorf("what was handed in was written into, and the answer is %v", b)
	}
	// A refused one changes nothing, either.
	in = roomy(photo.made())
	Blank(0, photo.h, in.Comps, in.Quants)
	Blank(photo.w, photo.h, in.Comps, in.Quants[:1])
	if !like(in, photo.made()) || !like(spare(in), was) {
		t.Errorf("what was handed in became %v", in)
	}
}

// Promise 11.3: all blocks.

// step is what Blocks hands out at a time.
type step struct {
	at frame.Spot
	b  api.Block
}

// steps are what Blocks hands out of the image that a shape makes.
func (s shape) steps() []step {
	var l []step
	for comp := range s.parts {
		cols, rows := s.grid(comp)
		for row := range rows {
			for col := range cols {
				l = append(l, step{frame.Spot{Comp: comp, Row: row, Col: col}, block(len(l))})
			}
		}
	}
	return l
}

func TestBlocks(t *testing.T) {
	for _, s := range append(shapes(), great()...) {
		scan := Blocks(s.made())
		// Each time that it is gone over.
		for range 2 {
			var got []step
			for at, b := range scan {
				got = append(got, step{at, b})
			}
			if !slices.Equal(got, s.steps()) {
				t.Errorf("%v: Blocks hands out %d", s, len(got))
			}
		}
	}
}

func TestBlocksLeftEarly(t *testing.T) {
	for _, s := range shapes() {
		want := s.steps()
		scan := Blocks(s.made())
		for n := range len(want) + 1 {
			var got []step
			for at, b := range scan {
				if len(got) == n {
					break
				}
				got = append(got, step{at, b})
			}
			if !slices.Equal(got, want[:n]) {
				t.Errorf("%v: left behind %d, Blocks hands out %v", s, n, got)
			}
		}
	}
}

func TestBlocksWithinBlocks(t *testing.T) {
	scan := Blocks(photo.made())
	var outer []step
	for at, b := range scan {
		var inner []step
		for at, b := range scan {
			inner = append(inner, step{at, b})
		}
		if !slices.Equal(inner, photo.steps()) {
			t.Errorf("Blocks within = %v", inner)
		}
		outer = append(outer, step{at, b})
	}
	if !slices.Equal(outer, photo.steps()) {
		t.Errorf("Blocks = %v", outer)
	}
}

func TestBlocksKeepsNothing(t *testing.T) {
	m := roomy(photo.made())
	scan := Blocks(m)
	blocks := m.Comps[2].P.B
	blocks[1] = block(4000)
	var got []step
	for at, b := range scan {
		clear(blocks)
		scribble(m)
		got = append(got, step{at, b})
	}
	if !slices.Equal(got, photo.steps()) {
		t.Errorf("Blocks = %v", got)
	}
	m = roomy(photo.made())
	for range Blocks(m) {
	}
	if !like(m, photo.made()) || !like(spare(m), spare(roomy(photo.made()))) {
		t.Errorf("what was handed in became %v", m)
	}
}

func TestBlocksOfImagesThatArentRight(t *testing.T) {
	for _, x := range faults() {
		m := photo.made()
		x.do(&m)
		scan := Blocks(m)
		if scan == nil {
			t.Fatalf("%s: Blocks is nil", x.name)
		}
		for at, b := range scan {
			t.Fatalf("%s: Blocks hands out %v, %v", x.name, at, b)
		}
	}
	// What wasn't right when it was handed in doesn't become so.
	m := photo.made()
	m.Comps[0].P.B[0][0] = 2000
	scan := Blocks(m)
	m.Comps[0].P.B[0][0] = 0
	for at, b := range scan {
		t.Fatalf("Blocks hands out %v, %v", at, b)
	}
}

// Promise 11.4: copies are the same and right, blank images are right.

func TestCopiesAndBlanksHold(t *testing.T) {
	for _, s := range append(shapes(), great()...) {
		m := s.made()
		c := Copy(m)
		if !Same(c, m) || !Same(m, c) || Right(c) != api.OK || !Same(Copy(c), m) {
			t.Errorf("%v: a copy isn't the same", s)
		}
		n, e := Size(m)
		if k, f := Size(c); k != n || f != e {
			t.Errorf("%v: the copy's size is %d, not %d", s, k, n)
		}
	}
	for h := 1; h <= 4; h++ {
		for v := 1; v <= 4; v++ {
			for _, side := range []int{1, 7, 8, 9, 16, 17, 33, 100} {
				l := []frame.Part{{H: h, V: v}, {H: v, V: 1}}
				if h*v+v > 10 {
					l = l[:1]
				}
				s := shape{side, 101 - side, l}
				m, e := Blank(s.w, s.h, s.comps(), s.quants())
				if e != api.OK || Right(m) != api.OK || !like(m, s.blank()) {
					t.Errorf("%v: Blank = %d", s, e)
				}
				if c := Copy(m); !Same(c, m) || Right(c) != api.OK {
					t.Errorf("%v: a copy isn't the same", s)
				}
			}
		}
	}
}
