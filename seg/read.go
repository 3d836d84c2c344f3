package seg

import (
	"slices"

	"aquatint/api"
	"aquatint/cursor"
	"aquatint/huff"
	"aquatint/zig"
)

const (
	precision = 8  // how many bits a sample has
	maxPlace  = 3  // the last place of tables
	maxFactor = 4  // the greatest sampling factor
	maxPicks  = 4  // how many components a scan has at most
	maxBand   = 63 // where the last coefficient of a block comes
	maxShift  = 13 // how many bits a scan may leave to later ones
)

// Parse reads a segment.
func Parse(code int, body string) (Segment, api.Errno) {
	if e := refused(code); e != api.OK {
		return nil, e
	}
	if len(body) > api.MaxTag {
		return nil, api.ErrLen
	}
	r := &reader{c: cursor.New(body)}
	s := r.segment(code)
	r.need(r.c.Left() == 0, api.ErrLen)
	if r.e != api.OK {
		return nil, r.e
	}
	return s, api.OK
}

// refused answers why a code is none of a segment with a body that is read.
func refused(code int) api.Errno {
	switch {
	case !within(code, codeFirst, codeLast):
		return api.ErrMark
	case within(code, codeBare, codeBares):
		return api.ErrArg
	case !known(code):
		return api.ErrKind
	}
	return api.OK
}

// known tells whether a code is one of those whose bodies are read.
func known(code int) bool {
	switch code {
	case codeHuffs, codeScan, codeQuants, codeEvery, codeNote:
		return true
	}
	return within(code, codeFrame, codeFrames) || within(code, codeTag, codeTags)
}

// within tells whether a number is one of those from a first to a last one.
func within(n, first, last int) bool { return first <= n && n <= last }

// reader is a body that is read, up to the first error: behind it nothing is
// read any more, and no other error takes its place.
type reader struct {
	c *cursor.Cursor
	e api.Errno
}

// need is what must hold, else it is an error.
func (r *reader) need(ok bool, e api.Errno) {
	if r.e == api.OK && !ok {
		r.e = e
	}
}

// take reads bytes.
func (r *reader) take(n int) string {
	if r.e != api.OK {
		return ""
	}
	s, e := r.c.Take(n)
	r.need(e == api.OK, api.ErrLen)
	return s
}

// num reads a number.
func (r *reader) num(size int) int {
	if r.e != api.OK {
		return 0
	}
	n, e := r.c.Num(size)
	r.need(e == api.OK, api.ErrLen)
	return n
}

// pair reads the two numbers of one byte.
func (r *reader) pair() (int, int) {
	n := r.num(1)
	return n / 16, n % 16
}

// more tells whether another table follows.
func (r *reader) more() bool { return r.e == api.OK && r.c.Left() > 0 }

// segment reads the body of a segment.
func (r *reader) segment(code int) Segment {
	switch code {
	case codeHuffs:
		return r.huffs()
	case codeScan:
		return r.scan()
	case codeQuants:
		return r.quants()
	case codeEvery:
		return Restart{N: r.num(2)}
	}
	if within(code, codeFrame, codeFrames) {
		return r.frame(code)
	}
	return Plain{At: code, Body: r.c.Rest()}
}

// quants reads quantization tables.
func (r *reader) quants() Quants {
	l := []Quant{r.quant()}
	for r.more() {
		l = append(l, r.quant())
	}
	return Quants{L: l}
}

// quant reads a quantization table.
func (r *reader) quant() Quant {
	wide, at := r.place()
	var along [64]uint16
	for k := range along {
		n := r.num(1 + wide)
		r.need(n != 0, api.ErrTable)
		along[k] = uint16(n)
	}
	return Quant{At: at, Wide: wide == 1, Q: zig.Back(along)}
}

// huffs reads tables of codes.
func (r *reader) huffs() Huffs {
	l := []Huff{r.huff()}
	for r.more() {
		l = append(l, r.huff())
	}
	return Huffs{L: l}
}

// huff reads a table of codes.
func (r *reader) huff() Huff {
	var h Huff
	h.Class, h.At = r.place()
	sum := 0
	for n := range h.Counts {
		count := r.num(1)
		h.Counts[n] = uint8(count)
		sum += count
	}
	h.Symbols = r.take(sum)
	_, e := huff.New(h.Counts, h.Symbols)
	r.need(e == api.OK, api.ErrTable)
	return h
}

// place reads which kind of table comes, of two, and its place.
func (r *reader) place() (int, int) {
	kind, at := r.pair()
	r.need(kind <= 1 && at <= maxPlace, api.ErrTable)
	return kind, at
}

// frame reads a frame's beginning.
func (r *reader) frame(code int) Frame {
	r.need(r.num(1) == precision, api.ErrKind)
	h := r.num(2)
	w := r.num(2)
	r.need(h != 0 && w != 0, api.ErrFrame)
	r.need(h <= api.MaxSide && w <= api.MaxSide, api.ErrLarge)
	many := r.num(1)
	r.need(many != 0, api.ErrFrame)
	r.need(many <= api.MaxComps, api.ErrMany)
	f := Frame{At: code, H: h, W: w}
	for range many {
		p := r.part()
		ahead := slices.ContainsFunc(f.Comps, func(q Part) bool { return q.Id == p.Id })
		r.need(!ahead, api.ErrFrame)
		f.Comps = append(f.Comps, p)
	}
	return f
}

// part reads a component of a frame.
func (r *reader) part() Part {
	id := r.num(1)
	h, v := r.pair()
	r.need(within(h, 1, maxFactor) && within(v, 1, maxFactor), api.ErrFrame)
	q := r.num(1)
	r.need(q <= maxPlace, api.ErrFrame)
	return Part{Id: id, H: h, V: v, Q: q}
}

// scan reads a scan's beginning.
func (r *reader) scan() Scan {
	many := r.num(1)
	r.need(within(many, 1, maxPicks), api.ErrScan)
	var s Scan
	for range many {
		id := r.num(1)
		// Unlike a frame's, an id that stands ahead is told ahead of what follows it.
		ahead := slices.ContainsFunc(s.Comps, func(p Pick) bool { return p.Id == id })
		r.need(!ahead, api.ErrScan)
		dc, ac := r.pair()
		r.need(dc <= maxPlace && ac <= maxPlace, api.ErrScan)
		s.Comps = append(s.Comps, Pick{Id: id, Dc: dc, Ac: ac})
	}
	s.From = r.num(1)
	s.To = r.num(1)
	s.High, s.Low = r.pair()
	r.need(s.From <= s.To && s.To <= maxBand, api.ErrScan)
	r.need(s.High <= maxShift && s.Low <= maxShift, api.ErrScan)
	return s
}
