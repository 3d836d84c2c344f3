package image

import (
	"math"
	"math/rand/v2"
	"slices"
	"strings"
	"testing"

	"aquatint/api"
	"aquatint/frame"
	"aquatint/plane"
)

// Promise 11.1: what an image's error is.

func TestRight(t *testing.T) {
	for _, s := range append(shapes(), great()...) {
		if e := Right(s.made()); e != api.OK {
			t.Errorf("%v: Right = %d", s, e)
		}
	}
}

func TestRightOfFaults(t *testing.T) {
	for _, x := range faults() {
		m := photo.made()
		x.do(&m)
		if e := Right(m); e != x.want {
			t.Errorf("%s: Right = %d, want %d", x.name, e, x.want)
		}
	}
}

func TestTheFirstFaultCounts(t *testing.T) {
	l := lines()
	for pick := range 1 << len(l) {
		m := photo.made()
		want, names := api.OK, []string{}
		for i, x := range l {
			if pick>>i&1 == 1 {
				x.do(&m)
				names = append(names, x.name)
				if want == api.OK {
					want = x.want
				}
			}
		}
		if e := Right(m); e != want {
			t.Errorf("%v: Right = %d, want %d", names, e, want)
		}
	}
}

func TestRightChangesNothing(t *testing.T) {
	m := roomy(photo.made())
	Right(m)
	Size(m)
	Frame(m)
	Table(m, 1)
	if !like(m, photo.made()) || !like(spare(m), spare(roomy(photo.made()))) {
		t.Errorf("what was handed in became %v", m)
	}
}

// of is an image of one block for each of some components.
func of(n int) api.Image {
	s := shape{8, 8, nil}
	for range n {
		s.parts = append(s.parts, frame.Part{H: 1, V: 1})
	}
	return s.made()
}

func TestIds(t *testing.T) {
	for n := 1; n <= 4; n++ {
		for at := range n {
			for _, id := range append([]int{0, 1, 100, 199, 201, 254, 255, 256, 257, 511, 512}, far...) {
				m := of(n)
				twice := false
				for i, c := range m.Comps {
					twice = twice || i != at && c.Id == id
				}
				m.Comps[at].Id = id
				want := api.OK
				if id < 0 || id > 255 || twice {
					want = api.ErrFrame
				}
				if e := Right(m); e != want {
					t.Errorf("the id %d at %d of %d: Right = %d, want %d", id, at, n, e, want)
				}
			}
		}
	}
}

func TestPlacesOfTables(t *testing.T) {
	for n := 1; n <= 4; n++ {
		for at := range n {
			for _, q := range append([]int{4, 5, 255, 256}, far...) {
				m := of(n)
				m.Comps[at].Q = q
				// It is the same where the table itself is there.
				for range 2 {
					if e := Right(m); e != api.ErrFrame {
						t.Errorf("the place %d at %d of %d: Right = %d", q, at, n, e)
					}
					m.Quants = append(m.Quants, api.Quant{At: q, Q: numbers(1)})
				}
			}
		}
	}
}

// lists hands out all lists of n of the numbers from a first to a last one.
func lists(n, first, last int, do func([]int)) {
	if n == 0 {
		do(nil)
		return
	}
	lists(n-1, first, last, func(l []int) {
		for x := first; x <= last; x++ {
			do(append(l[:len(l):len(l)], x))
		}
	})
}

func TestJustTheTablesThatComponentsHave(t *testing.T) {
	right := 0
	for comps := 1; comps <= 3; comps++ {
		lists(comps, 0, 3, func(places []int) {
			m := of(comps)
			for i, q := range places {
				m.Comps[i].Q = q
			}
			needed := slices.Clone(places)
			slices.Sort(needed)
			needed = slices.Compact(needed)
			for n := range 5 {
				lists(n, -1, 4, func(ats []int) {
					m.Quants = nil
					for _, at := range ats {
						m.Quants = append(m.Quants, api.Quant{At: at, Q: numbers(1)})
					}
					want := api.ErrTable
					if slices.Equal(ats, needed) {
						want = api.OK
						right++
					}
					if e := Right(m); e != want {
						t.Errorf("components at %v, tables at %v: Right = %d, want %d", places, ats, e, want)
					}
				})
			}
		})
	}
	if right != 4+16+64 {
		t.Errorf("%d are right", right)
	}
}

func TestTablesFarOut(t *testing.T) {
	for _, x := range far {
		for at := range 3 {
			m := of(4)
			m.Quants[at].At = x
			if e := Right(m); e != api.ErrTable {
				t.Errorf("a table at %d: Right = %d", x, e)
			}
			m = of(4)
			m.Quants = slices.Insert(m.Quants, at, api.Quant{At: x, Q: numbers(1)})
			if e := Right(m); e != api.ErrTable {
				t.Errorf("a table more at %d: Right = %d", x, e)
			}
		}
	}
}

func TestNumbersOfTables(t *testing.T) {
	for at := range 3 {
		for k := range 64 {
			for _, n := range []uint16{0, 1, 255, 256, 32768, 65535} {
				m := of(4)
				m.Quants[at].Q[k] = n
				want := api.OK
				if n == 0 {
					want = api.ErrTable
				}
				if e := Right(m); e != want {
					t.Errorf("the number %d at %d of the table %d: Right = %d, want %d", n, k, at, e, want)
				}
			}
		}
	}
}

func TestPlanesThatArentTheirGrids(t *testing.T) {
	b := func(n int) []api.Block { return make([]api.Block, n) }
	for _, s := range shapes() {
		for i := range s.parts {
			cols, rows := s.grid(i)
			try := func(p api.Plane) {
				t.Helper()
				m := s.made()
				m.Comps[i].P = p
				want := api.ErrLen
				if p.Cols == cols && p.Rows == rows && len(p.B) == cols*rows {
					want = api.OK
				}
				if e := Right(m); e != want {
					t.Errorf("%v: a plane of %d by %d with %d blocks: Right = %d, want %d", s, p.Cols, p.Rows, len(p.B), e, want)
				}
			}
			for c := -1; c <= cols+3; c++ {
				for r := -1; r <= rows+3; r++ {
					try(api.Plane{Cols: c, Rows: r, B: b(max(0, c*r))})
					try(api.Plane{Cols: c, Rows: r, B: b(cols * rows)})
				}
			}
			for n := range cols*rows + 3 {
				try(api.Plane{Cols: cols, Rows: rows, B: b(n)})
			}
			try(api.Plane{Cols: rows, Rows: cols, B: b(cols * rows)})
			try(api.Plane{Cols: cols * rows, Rows: 1, B: b(cols * rows)})
			try(api.Plane{Cols: 1, Rows: cols * rows, B: b(cols * rows)})
			try(api.Plane{Cols: -cols, Rows: -rows, B: b(cols * rows)})
			for _, x := range far {
				try(api.Plane{Cols: x, Rows: rows, B: b(cols * rows)})
				try(api.Plane{Cols: cols, Rows: x, B: b(cols * rows)})
				try(api.Plane{Cols: x, Rows: x, B: b(cols * rows)})
			}
		}
	}
}

func TestTheOwnPartIsNoGrid(t *testing.T) {
	m := photo.made()
	f, _ := Frame(m)
	g, _ := f.Grid(0)
	if g.OwnCols == g.Cols {
		t.Fatalf("the own part is the grid")
	}
	m.Comps[0].P = api.Plane{Cols: g.OwnCols, Rows: g.OwnRows, B: make([]api.Block, g.OwnCols*g.OwnRows)}
	if e := Right(m); e != api.ErrLen {
		t.Errorf("Right = %d", e)
	}
}

func TestAllPlanesComeAheadOfAllCoefficients(t *testing.T) {
	m := photo.made()
	m.Comps[0].P.B[0][0] = 1024
	m.Comps[2].P.B = m.Comps[2].P.B[:1]
	if e := Right(m); e != api.ErrLen {
		t.Errorf("Right = %d", e)
	}
}

func TestRanges(t *testing.T) {
	for i := range photo.parts {
		cols, rows := photo.grid(i)
		for n := range cols * rows {
			for k := range 64 {
				for _, x := range []int16{-32768, -2048, -1025, -1024, -1023, -1, 0, 1, 1022, 1023, 1024, 2047, 32767} {
					m := photo.made()
					m.Comps[i].P.B[n][k] = x
					want := api.OK
					if x > 1023 || x < -1024 || x == -1024 && k > 0 {
						want = api.ErrRange
					}
					if e := Right(m); e != want {
						t.Errorf("%d at %d of the block %d of %d: Right = %d, want %d", x, k, n, i, e, want)
					}
				}
			}
		}
	}
	m := shape{1024, 1024, []frame.Part{{H: 1, V: 1}}}.made()
	m.Comps[0].P.B[api.MaxBlocks-1][63] = 1024
	if e := Right(m); e != api.ErrRange {
		t.Errorf("the last one of all: Right = %d", e)
	}
}

func TestKindsOfTags(t *testing.T) {
	kinds := slices.Clone(far)
	for k := -2; k < 600; k++ {
		kinds = append(kinds, k)
	}
	for _, k := range kinds {
		for at := range 4 {
			m := photo.made()
			m.Tags[at].Kind = k
			want := api.ErrKind
			if k >= 0xe0 && k <= 0xef || k == 0xfe {
				want = api.OK
			}
			if e := Right(m); e != want {
				t.Errorf("a tag %x: Right = %d, want %d", k, e, want)
			}
		}
	}
}

func TestBodiesOfTags(t *testing.T) {
	for _, n := range []int{0, 1, api.MaxTag - 1, api.MaxTag, api.MaxTag + 1, api.MaxTag + 2, 65536, 131072} {
		for at := range 4 {
			m := photo.made()
			m.Tags[at].Body = strings.Repeat("\xff", n)
			want := api.OK
			if n > api.MaxTag {
				want = api.ErrLen
			}
			if e := Right(m); e != want {
				t.Errorf("a body of %d bytes: Right = %d, want %d", n, e, want)
			}
		}
	}
}

func TestHowManyTags(t *testing.T) {
	for _, n := range []int{0, 1, api.MaxTags - 1, api.MaxTags, api.MaxTags + 1, 1000} {
		m := photo.made()
		m.Tags = make([]api.Tag, n)
		for i := range m.Tags {
			m.Tags[i].Kind = 0xe0
		}
		want := api.OK
		if n > api.MaxTags {
			want = api.ErrMany
		}
		if e := Right(m); e != want {
			t.Errorf("%d tags: Right = %d, want %d", n, e, want)
		}
	}
}

func TestTagsAreAskedOneByOne(t *testing.T) {
	long := strings.Repeat("x", api.MaxTag+1)
	good := api.Tag{Kind: 0xe1, Body: "x"}
	kind := api.Tag{Kind: 0xdf}
	size := api.Tag{Kind: 0xfe, Body: long}
	both := api.Tag{Kind: 0xff, Body: long}
	for i, x := range []struct {
		tags []api.Tag
		want api.Errno
	}{
		{[]api.Tag{size, kind}, api.ErrLen},
		{[]api.Tag{kind, size}, api.ErrKind},
		{[]api.Tag{good, size, kind}, api.ErrLen},
		{[]api.Tag{good, kind, size}, api.ErrKind},
		{[]api.Tag{both}, api.ErrKind},
		{[]api.Tag{size, both}, api.ErrLen},
		{[]api.Tag{good, both, size}, api.ErrKind},
		{slices.Repeat([]api.Tag{size}, 65), api.ErrMany},
		{slices.Repeat([]api.Tag{kind}, 65), api.ErrMany},
		{append(slices.Repeat([]api.Tag{good}, 63), size), api.ErrLen},
		{append(slices.Repeat([]api.Tag{good}, 63), kind), api.ErrKind},
		{append(slices.Repeat([]api.Tag{good}, 64), kind), api.ErrMany},
	} {
		m := photo.made()
		m.Tags = x.tags
		if e := Right(m); e != x.want {
			t.Errorf("%d: Right = %d, want %d", i, e, x.want)
		}
	}
}

// model is an image's error, told line by line of the chapter.
func model(m api.Image) api.Errno {
	var parts []frame.Part
	for _, c := range m.Comps {
		parts = append(parts, frame.Part{H: c.H, V: c.V})
	}
	f, e := frame.New(m.W, m.H, parts)
	if e != api.OK {
		return e
	}
	ids, need, have := map[int]int{}, map[int]int{}, map[int]int{}
	for _, c := range m.Comps {
		ids[c.Id]++
		need[c.Q]++
		if c.Id < 0 || c.Id > 255 || ids[c.Id] > 1 || c.Q < 0 || c.Q > 3 {
			return api.ErrFrame
		}
	}
	was := -1
	for _, q := range m.Quants {
		have[q.At]++
		if q.At <= was || q.At > 3 || need[q.At] == 0 || slices.Min(q.Q[:]) == 0 {
			return api.ErrTable
		}
		was = q.At
	}
	if len(have) != len(need) {
		return api.ErrTable
	}
	for i, c := range m.Comps {
		if g, _ := f.Grid(i); !plane.Right(c.P) || g.Cols != c.P.Cols || g.Rows != c.P.Rows {
			return api.ErrLen
		}
	}
	for _, c := range m.Comps {
		for _, b := range c.P.B {
			if slices.Max(b[:]) > 1023 || b[0] < -1024 || slices.Min(b[1:]) < -1023 {
				return api.ErrRange
			}
		}
	}
	if len(m.Tags) > 64 {
		return api.ErrMany
	}
	for _, t := range m.Tags {
		if t.Kind < 0xe0 || t.Kind > 0xef && t.Kind != 0xfe {
			return api.ErrKind
		}
		if len(t.Body) > 65533 {
			return api.ErrLen
		}
	}
	return api.OK
}

// change changes one thing of an image, told by numbers: x tells what, y where,
// z how.
func change(m *api.Image, x, y, z int) {
	in := func(n int) int { return int(uint(y) % uint(max(n, 1))) }
	c, q, t := api.Comp{}, api.Quant{}, api.Tag{}
	if len(m.Comps) > 0 {
		c = m.Comps[in(len(m.Comps))]
	}
	if len(m.Quants) > 0 {
		q = m.Quants[in(len(m.Quants))]
	}
	if len(m.Tags) > 0 {
		t = m.Tags[in(len(m.Tags))]
	}
	switch x {
	case 0:
		m.W = z
	case 1:
		m.H = z
	case 2:
		c.Id = z
	case 3:
		c.H = z
	case 4:
		c.V = z
	case 5:
		c.Q = z
	case 6:
		c.P.Cols = z
	case 7:
		c.P.Rows = z
	case 8:
		c.P.B = append(slices.Clone(c.P.B), block(1))
	case 9:
		if n := in(len(c.P.B)); n < len(c.P.B) {
			c.P.B = slices.Clone(c.P.B)
			c.P.B[n][uint(y/7)%64] = int16(z)
		}
	case 10:
		q.At = z
	case 11:
		q.Q[in(64)] = uint16(z)
	case 12:
		t.Kind = z
	case 13:
		t.Body = strings.Repeat("x", int(uint(z)%70000))
	case 14:
		m.Quants = append(m.Quants, api.Quant{At: z, Q: numbers(2)})
	case 15:
		m.Tags = append(m.Tags, api.Tag{Kind: 0xe0 + z%16})
	case 16:
		m.Comps = append(m.Comps, api.Comp{Id: z, H: 1, V: 1, Q: 1, P: api.Plane{Cols: 2, Rows: 1, B: make([]api.Block, 2)}})
	case 17:
		m.Comps = m.Comps[:in(len(m.Comps)+1)]
		return
	case 18:
		m.Quants = m.Quants[:in(len(m.Quants)+1)]
		return
	}
	if len(m.Comps) > 0 {
		m.Comps[in(len(m.Comps))] = c
	}
	if len(m.Quants) > 0 {
		m.Quants[in(len(m.Quants))] = q
	}
	if len(m.Tags) > 0 {
		m.Tags[in(len(m.Tags))] = t
	}
}

func TestRightAsTheModel(t *testing.T) {
	r := rand.New(rand.NewPCG(11, 1))
	small := []int{0, 1, 2, 3, 4, 7, 8, 9, 16, 17, 32, 0xe0, 0xef, 0xfe, 255, 256, 1023, 1024, -1, -1023, -1024, 65533, 65534}
	all := append(small, far...)
	seen := map[api.Errno]int{}
	l := shapes()
	for range 100000 {
		m := l[r.IntN(len(l))].made()
		for range r.IntN(4) {
			from := small
			if r.IntN(4) == 0 {
				from = all
			}
			change(&m, r.IntN(19), r.IntN(1000), from[r.IntN(len(from))])
		}
		want := model(m)
		seen[want]++
		if e := Right(m); e != want {
			t.Fatalf("%v: Right = %d, want %d", m, e, want)
		}
	}
	for _, e := range []api.Errno{api.OK, api.ErrFrame, api.ErrLarge, api.ErrMany, api.ErrTable, api.ErrLen, api.ErrRange, api.ErrKind} {
		if seen[e] < 50 {
			t.Errorf("%d was seen %d times", e, seen[e])
		}
	}
}

// FuzzRight looks for images whose error isn't the model's.
func FuzzRight(f *testing.F) {
	f.Add(0, 0, 0, 0, 0, 0, 0)
	f.Add(1, 6, 1, math.MaxInt, 9, 200, 1024)
	f.Fuzz(func(t *testing.T, s, x, y, z, x2, y2, z2 int) {
		l := shapes()
		m := l[uint(s)%uint(len(l))].made()
		change(&m, x, y, z)
		change(&m, x2, y2, z2)
		was := Copy(m)
		if e := Right(m); e != model(m) {
			t.Fatalf("%v: Right = %d, want %d", m, e, model(m))
		}
		n := 0
		for range Blocks(m) {
			n++
		}
		if (n > 0) != (model(m) == api.OK) || !like(m, was) {
			t.Fatalf("%v: %d blocks", m, n)
		}
	})
}
