package seg

import (
	"slices"
	"strings"

	"aquatint/api"
	"aquatint/cursor"
	"aquatint/zig"
)

// writer is bytes that are written.
type writer struct{ strings.Builder }

// Bytes writes a segment.
func Bytes(s Segment) (string, api.Errno) {
	w := &writer{}
	switch x := s.(type) {
	case Bare:
		return bare(x)
	case Plain:
		w.WriteString(x.Body)
	case Quants:
		w.quants(x)
	case Huffs:
		w.huffs(x)
	case Frame:
		w.frame(x)
	case Scan:
		w.scan(x)
	case Restart:
		w.num(x.N, 2)
	default:
		// Nothing is asked of a segment of another type, nil or not: whatever its code is, none is read as it.
		return "", api.ErrArg
	}
	return whole(s, w.String())
}

// bare answers the bytes of a segment without a body.
func bare(s Bare) (string, api.Errno) {
	if !within(s.At, codeBare, codeBares) {
		return "", api.ErrArg
	}
	w := &writer{}
	w.marker(s.At)
	return w.String(), api.OK
}

// whole answers the bytes of a segment with a body, if just that segment is read of it.
func whole(s Segment, body string) (string, api.Errno) {
	again, e := Parse(s.Code(), body)
	if e != api.OK || !alike(s, again) {
		return "", api.ErrArg
	}
	w := &writer{}
	w.marker(s.Code())
	w.num(len(body)+2, 2)
	w.WriteString(body)
	return w.String(), api.OK
}

// alike tells whether two segments are of one type, and all their fields alike.
func alike(a, b Segment) bool {
	switch x := a.(type) {
	case Plain:
		y, ok := b.(Plain)
		return ok && x == y
	case Quants:
		y, ok := b.(Quants)
		return ok && slices.Equal(x.L, y.L)
	case Huffs:
		y, ok := b.(Huffs)
		return ok && slices.Equal(x.L, y.L)
	case Frame:
		y, ok := b.(Frame)
		return ok && x.At == y.At && x.H == y.H && x.W == y.W && slices.Equal(x.Comps, y.Comps)
	case Scan:
		y, ok := b.(Scan)
		return ok && x.From == y.From && x.To == y.To && x.High == y.High && x.Low == y.Low && slices.Equal(x.Comps, y.Comps)
	case Restart:
		y, ok := b.(Restart)
		return ok && x == y
	}
	return false
}

// num writes a number.
func (w *writer) num(n, size int) {
	// Of a number that doesn't fit nothing is written: no segment that is read has it, so the one that has it is refused.
	s, _ := cursor.Put(n, size)
	w.WriteString(s)
}

// pair writes two numbers as one byte.
func (w *writer) pair(high, low int) { w.num(16*high+low, 1) }

// marker writes a marker.
func (w *writer) marker(code int) {
	w.num(codeLead, 1)
	w.num(code, 1)
}

// quants writes quantization tables.
func (w *writer) quants(s Quants) {
	for _, q := range s.L {
		wide := 0
		if q.Wide {
			wide = 1
		}
		w.pair(wide, q.At)
		for _, n := range zig.Zig(q.Q) {
			w.num(int(n), 1+wide)
		}
	}
}

// huffs writes tables of codes.
func (w *writer) huffs(s Huffs) {
	for _, h := range s.L {
		w.pair(h.Class, h.At)
		for _, count := range h.Counts {
			w.num(int(count), 1)
		}
		w.WriteString(h.Symbols)
	}
}

// frame writes a frame's beginning.
func (w *writer) frame(s Frame) {
	w.num(precision, 1)
	w.num(s.H, 2)
	w.num(s.W, 2)
	w.num(len(s.Comps), 1)
	for _, p := range s.Comps {
		w.num(p.Id, 1)
		w.pair(p.H, p.V)
		w.num(p.Q, 1)
	}
}

// scan writes a scan's beginning.
func (w *writer) scan(s Scan) {
	w.num(len(s.Comps), 1)
	for _, p := range s.Comps {
		w.num(p.Id, 1)
		w.pair(p.Dc, p.Ac)
	}
	w.num(s.From, 1)
	w.num(s.To, 1)
	w.pair(s.High, s.Low)
}
