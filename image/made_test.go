package image

import (
	"math"
	"strings"

	"aquatint/api"
	"aquatint/frame"
)

// far are numbers far out, and those next to the edges of integers.
var far = []int{math.MinInt, math.MinInt + 1, -1 << 32, -1 << 31, -65536, -256, -2, -1, 1 << 16, 1 << 31, 1 << 32, 1<<32 + 1, 1 << 62, math.MaxInt - 1, math.MaxInt}

// shape is sides and factors.
type shape struct {
	w, h  int
	parts []frame.Part
}

// photo is the shape that most tests begin with: its grids are 4 by 2, 2 by 1
// and 2 by 1.
var photo = shape{17, 9, []frame.Part{{H: 2, V: 2}, {H: 1, V: 1}, {H: 1, V: 1}}}

// shapes are the small ones that most tests go through.
func shapes() []shape {
	return []shape{
		photo,
		{1, 1, []frame.Part{{H: 1, V: 1}}},
		{9, 8, []frame.Part{{H: 1, V: 1}}},
		{17, 25, []frame.Part{{H: 4, V: 3}}},
		{1, 1, []frame.Part{{H: 3, V: 3}, {H: 1, V: 1}}},
		{25, 9, []frame.Part{{H: 1, V: 1}, {H: 1, V: 2}, {H: 3, V: 1}}},
		{33, 40, []frame.Part{{H: 1, V: 1}, {H: 2, V: 1}, {H: 1, V: 2}, {H: 4, V: 1}}},
	}
}

// great are shapes with as many samples or blocks as there may be.
func great() []shape {
	one := []frame.Part{{H: 1, V: 1}}
	return []shape{
		{1024, 1024, one},
		{api.MaxSide, 64, one},
		{64, api.MaxSide, one},
		{512, 512, []frame.Part{{H: 1, V: 1}, {H: 1, V: 1}, {H: 1, V: 1}, {H: 1, V: 1}}},
	}
}

// covering is how many steps it takes to cover a number.
func covering(n, step int) int {
	steps := 0
	for at := 0; at < n; at += step {
		steps++
	}
	return steps
}

// grid is how many columns and rows a component of a shape has.
func (s shape) grid(comp int) (int, int) {
	if len(s.parts) == 1 {
		return covering(s.w, 8), covering(s.h, 8)
	}
	most := frame.Part{}
	for _, p := range s.parts {
		most.H = max(most.H, p.H)
		most.V = max(most.V, p.V)
	}
	p := s.parts[comp]
	return p.H * covering(s.w, 8*most.H), p.V * covering(s.h, 8*most.V)
}

// block is a block that tells its number, with coefficients in their ranges.
func block(n int) api.Block {
	var b api.Block
	for k := range b {
		b[k] = int16((n+61*k)%2047 - 1023)
	}
	b[0] = int16(n%2048 - 1024)
	b[63] = int16(n/2048 - 1023)
	return b
}

// numbers are a table's, those of all places different.
func numbers(at int) [64]uint16 {
	var q [64]uint16
	for k := range q {
		q[k] = uint16(1 + 1000*at + 900*k)
	}
	return q
}

// comps are components, without planes.
func (s shape) comps() []api.Comp {
	ids := []int{200, 0, 255, 7}
	places := []int{1, 3, 1, 0}
	var l []api.Comp
	for i, p := range s.parts {
		l = append(l, api.Comp{Id: ids[i], H: p.H, V: p.V, Q: places[i]})
	}
	return l
}

// quants are the tables of those components.
func (s shape) quants() []api.Quant {
	switch len(s.parts) {
	case 1:
		return []api.Quant{{At: 1, Q: numbers(1)}}
	case 2, 3:
		return []api.Quant{{At: 1, Q: numbers(1)}, {At: 3, Q: numbers(3)}}
	}
	return []api.Quant{{At: 0, Q: numbers(0)}, {At: 1, Q: numbers(1)}, {At: 3, Q: numbers(3)}}
}

// made is a right image of a shape, with blocks that are all different, and
// tags.
func (s shape) made() api.Image {
	m := api.Image{W: s.w, H: s.h, Comps: s.comps(), Quants: s.quants()}
	n := 0
	for i := range m.Comps {
		cols, rows := s.grid(i)
		m.Comps[i].P = api.Plane{Cols: cols, Rows: rows}
		for range cols * rows {
			m.Comps[i].P.B = append(m.Comps[i].P.B, block(n))
			n++
		}
	}
	m.Tags = []api.Tag{{Kind: 0xe0, Body: "JFIF\x00"}, {Kind: 0xfe, Body: "a note"}, {Kind: 0xef}, {Kind: 0xe0, Body: "\xff\xfe"}}
	return m
}

// fault is something that makes a photo one that isn't right.
type fault struct {
	name string
	want api.Errno
	do   func(m *api.Image)
}

// lines are faults, the first one of each line of the chapter (and of each of
// the tags' errors), in their order; they touch different things.
func lines() []fault {
	return []fault{
		{"a width of 0", api.ErrFrame, func(m *api.Image) { m.W = 0 }},
		{"a great id", api.ErrFrame, func(m *api.Image) { m.Comps[1].Id = 256 }},
		{"a table with 0", api.ErrTable, func(m *api.Image) { m.Quants[1].Q[63] = 0 }},
		{"a column more", api.ErrLen, func(m *api.Image) { m.Comps[2].P.Cols++ }},
		{"a great coefficient", api.ErrRange, func(m *api.Image) { m.Comps[0].P.B[7][63] = 1024 }},
		{"many tags", api.ErrMany, func(m *api.Image) { m.Tags = append(m.Tags, make([]api.Tag, 61)...) }},
		{"a tag's kind", api.ErrKind, func(m *api.Image) { m.Tags[1].Kind = 0xdb }},
		{"a tag's body", api.ErrLen, func(m *api.Image) { m.Tags[2].Body = strings.Repeat("x", api.MaxTag+1) }},
	}
}

// faults are lines, and others.
func faults() []fault {
	return append(lines(),
		fault{"no sides", api.ErrFrame, func(m *api.Image) { m.W, m.H = 0, 0 }},
		fault{"a height below 0", api.ErrFrame, func(m *api.Image) { m.H = -9 }},
		fault{"a great height", api.ErrLarge, func(m *api.Image) { m.H = api.MaxSide + 1 }},
		fault{"no components", api.ErrFrame, func(m *api.Image) { m.Comps = nil }},
		fault{"nothing", api.ErrFrame, func(m *api.Image) { *m = api.Image{} }},
		fault{"a factor of 0", api.ErrFrame, func(m *api.Image) { m.Comps[2].V = 0 }},
		fault{"a factor of 5", api.ErrFrame, func(m *api.Image) { m.Comps[0].H = 5 }},
		fault{"a unit of 11 blocks", api.ErrMany, func(m *api.Image) { m.Comps[0].H, m.Comps[0].V = 3, 3 }},
		fault{"five components", api.ErrMany, func(m *api.Image) { m.Comps = append(m.Comps, m.Comps[1:]...) }},
		fault{"many blocks", api.ErrLarge, func(m *api.Image) { m.W, m.H = 4096, 4096 }},
		fault{"an id twice", api.ErrFrame, func(m *api.Image) { m.Comps[2].Id = m.Comps[0].Id }},
		fault{"an id below 0", api.ErrFrame, func(m *api.Image) { m.Comps[0].Id = -1 }},
		fault{"a great place", api.ErrFrame, func(m *api.Image) { m.Comps[2].Q = 4 }},
		fault{"a place below 0", api.ErrFrame, func(m *api.Image) { m.Comps[1].Q = -1 }},
		fault{"no tables", api.ErrTable, func(m *api.Image) { m.Quants = nil }},
		fault{"no table of a component", api.ErrTable, func(m *api.Image) { m.Comps[1].Q = 2 }},
		fault{"a table of none", api.ErrTable, func(m *api.Image) { m.Comps[1].Q = 1 }},
		fault{"a table twice", api.ErrTable, func(m *api.Image) { m.Quants = append(m.Quants, m.Quants[1]) }},
		fault{"tables that fall", api.ErrTable, func(m *api.Image) { m.Quants[0], m.Quants[1] = m.Quants[1], m.Quants[0] }},
		fault{"no plane", api.ErrLen, func(m *api.Image) { m.Comps[0].P = api.Plane{} }},
		fault{"a block less", api.ErrLen, func(m *api.Image) { m.Comps[1].P.B = m.Comps[1].P.B[:1] }},
		fault{"a side of another grid", api.ErrLen, func(m *api.Image) { m.W = 33 }},
		fault{"a small first coefficient", api.ErrRange, func(m *api.Image) { m.Comps[2].P.B[0][0] = -1025 }},
		fault{"a small coefficient", api.ErrRange, func(m *api.Image) { m.Comps[2].P.B[1][1] = -1024 }},
		fault{"a tag without a kind", api.ErrKind, func(m *api.Image) { m.Tags[0].Kind = 0 }},
	)
}

// like tells whether two images have the same in them; it goes through all of
// it one by one.
func like(a, b api.Image) bool {
	if a.W != b.W || a.H != b.H || len(a.Comps) != len(b.Comps) || len(a.Quants) != len(b.Quants) || len(a.Tags) != len(b.Tags) {
		return false
	}
	for i, c := range a.Comps {
		d := b.Comps[i]
		if c.Id != d.Id || c.H != d.H || c.V != d.V || c.Q != d.Q || c.P.Cols != d.P.Cols || c.P.Rows != d.P.Rows || len(c.P.B) != len(d.P.B) {
			return false
		}
		for n := range c.P.B {
			for k := range 64 {
				if c.P.B[n][k] != d.P.B[n][k] {
					return false
				}
			}
		}
	}
	for i, q := range a.Quants {
		for k := range 64 {
			if q.Q[k] != b.Quants[i].Q[k] {
				return false
			}
		}
		if q.At != b.Quants[i].At {
			return false
		}
	}
	for i, t := range a.Tags {
		if t.Kind != b.Tags[i].Kind || t.Body != b.Tags[i].Body {
			return false
		}
	}
	return true
}

// roomy gives all lists of an image spare room, with something in it.
func roomy(m api.Image) api.Image {
	for i, c := range m.Comps {
		c.P.B = append(append([]api.Block{}, c.P.B...), block(2000), block(2001))[:len(c.P.B)]
		m.Comps[i] = c
	}
	spare := api.Comp{Id: 77, P: api.Plane{B: []api.Block{block(3000)}}}
	m.Comps = append(append([]api.Comp{}, m.Comps...), spare)[:len(m.Comps)]
	m.Quants = append(append([]api.Quant{}, m.Quants...), api.Quant{At: 77})[:len(m.Quants)]
	m.Tags = append(append([]api.Tag{}, m.Tags...), api.Tag{Kind: 77})[:len(m.Tags)]
	return m
}

// spare is what stands now in the spare room of an image's lists, as an image.
func spare(m api.Image) api.Image {
	var s api.Image
	s.Comps = append(s.Comps, m.Comps[len(m.Comps):cap(m.Comps)]...)
	for i, c := range s.Comps {
		s.Comps[i].P.B = append([]api.Block{}, c.P.B...)
	}
	for _, c := range m.Comps {
		rest := append([]api.Block{}, c.P.B[len(c.P.B):cap(c.P.B)]...)
		s.Comps = append(s.Comps, api.Comp{P: api.Plane{B: rest}})
	}
	s.Quants = append(s.Quants, m.Quants[len(m.Quants):cap(m.Quants)]...)
	s.Tags = append(s.Tags, m.Tags[len(m.Tags):cap(m.Tags)]...)
	return s
}

// scribble writes over all that an image's lists have, their spare room too.
func scribble(m api.Image) {
	comps := m.Comps[:cap(m.Comps)]
	for i, c := range comps {
		for n := range c.P.B[:cap(c.P.B)] {
			c.P.B[:cap(c.P.B)][n] = block(5000)
		}
		comps[i] = api.Comp{Id: 99, H: 99, V: 99, Q: 99, P: api.Plane{Cols: 99, Rows: 99}}
	}
	for i := range m.Quants[:cap(m.Quants)] {
		m.Quants[:cap(m.Quants)][i] = api.Quant{At: 99}
	}
	for i := range m.Tags[:cap(m.Tags)] {
		m.Tags[:cap(m.Tags)][i] = api.Tag{Kind: 99, Body: "99"}
	}
}
