package seg

import (
	"fmt"
	"math"
	"math/rand/v2"
	"reflect"
	"slices"
	"strings"
	"testing"

	"aquatint/api"
	"aquatint/huff"
)

// known and refused codes, as the chapter has them.
var (
	plainCodes = []int{0xe0, 0xe1, 0xe2, 0xe3, 0xe4, 0xe5, 0xe6, 0xe7, 0xe8, 0xe9, 0xea, 0xeb, 0xec, 0xed, 0xee, 0xef, 0xfe}
	otherCodes = []int{0xc0, 0xc1, 0xc2, 0xc4, 0xda, 0xdb, 0xdd}
	kindCodes  = []int{0xc3, 0xc5, 0xc6, 0xc7, 0xc8, 0xc9, 0xca, 0xcb, 0xcc, 0xcd, 0xce, 0xcf, 0xdc, 0xde, 0xdf,
		0xf0, 0xf1, 0xf2, 0xf3, 0xf4, 0xf5, 0xf6, 0xf7, 0xf8, 0xf9, 0xfa, 0xfb, 0xfc, 0xfd}
	bareCodes = []int{0xd0, 0xd1, 0xd2, 0xd3, 0xd4, 0xd5, 0xd6, 0xd7, 0xd8, 0xd9}
)

// joined is the bytes of numbers.
func joined(l ...int) string {
	var b strings.Builder
	for _, n := range l {
		b.WriteByte(byte(n))
	}
	return b.String()
}

// change is a text with another byte at a place.
func change(s string, at, n int) string { return s[:at] + joined(n) + s[at+1:] }

// reads fails the test, if another segment is read than wanted, or if it isn't
// written back, byte for byte (7.4).
func reads(t *testing.T, code int, body string, want Segment) {
	t.Helper()
	s, e := Parse(code, body)
	if e != api.OK || !reflect.DeepEqual(s, want) {
		t.Fatalf("Parse(%x, %x) = %#v, %d, want %#v", code, body, s, e, want)
	}
	back(t, code, body, s)
}

// back fails the test, if a segment that was read isn't written back.
func back(t *testing.T, code int, body string, s Segment) {
	t.Helper()
	if s.Code() != code {
		t.Fatalf("the code of what was read as %x is %x", code, s.Code())
	}
	n := len(body) + 2
	if b, e := Bytes(s); e != api.OK || b != joined(0xff, code, n>>8, n)+body {
		t.Fatalf("what was read as %x of %x is written as %x, %d", code, body, b, e)
	}
}

// refuses fails the test, if something is read, or another error told.
func refuses(t *testing.T, code int, body string, want api.Errno) {
	t.Helper()
	if s, e := Parse(code, body); s != nil || e != want {
		t.Fatalf("Parse(%x, %.80x) = %#v, %d, want the error %d", code, body, s, e, want)
	}
}

// Promise 7.1: segments read of their bytes.

func TestCodes(t *testing.T) {
	bodies := []string{"", "\x00", "\x00\x08", "hi", strings.Repeat("\x01", api.MaxTag), strings.Repeat("\x01", api.MaxTag+1), strings.Repeat("\xff", 1<<20)}
	for _, body := range bodies {
		for n := -600; n <= 600; n++ {
			switch {
			case slices.Contains(kindCodes, n):
				refuses(t, n, body, api.ErrKind)
			case slices.Contains(bareCodes, n):
				refuses(t, n, body, api.ErrArg)
			case slices.Contains(plainCodes, n) && len(body) <= api.MaxTag:
				reads(t, n, body, Plain{At: n, Body: body})
			case slices.Contains(plainCodes, n) || slices.Contains(otherCodes, n) && len(body) > api.MaxTag:
				refuses(t, n, body, api.ErrLen)
			case !slices.Contains(otherCodes, n):
				refuses(t, n, body, api.ErrMark)
			}
		}
		for _, n := range append([]int{-0xfe, -0xc0, 0x1c0, 0x1fe, 0xfe00, 1<<32 + 0xfe, math.MinInt + 0xfe}, far...) {
			refuses(t, n, body, api.ErrMark)
		}
	}
}

func TestPlainOfAllBytes(t *testing.T) {
	var all string
	for n := range 256 {
		all += joined(n)
	}
	for _, code := range plainCodes {
		for n := range len(all) + 1 {
			reads(t, code, all[256-n:], Plain{At: code, Body: all[256-n:]})
		}
	}
}

func TestRestarts(t *testing.T) {
	for n := range 65536 {
		reads(t, 0xdd, joined(n>>8, n), Restart{N: n})
	}
	for _, n := range []int{0, 1, 3, 4, 100, api.MaxTag, api.MaxTag + 1} {
		refuses(t, 0xdd, strings.Repeat("\x01", n), api.ErrLen)
	}
}

// lined is the places of a block in the order of a file, told by its lines.
func lined() []int {
	var l []int
	for sum := range 15 {
		var line []int
		for u := max(0, sum-7); u <= min(7, sum); u++ {
			line = append(line, 8*(sum-u)+u)
		}
		if sum%2 == 1 {
			slices.Reverse(line)
		}
		l = append(l, line...)
	}
	return l
}

// quantBytes is a table's bytes, worked out by the order of the lines.
func quantBytes(q Quant) string {
	if q.Wide {
		s := joined(16 + q.At)
		for _, i := range lined() {
			s += joined(int(q.Q[i])>>8, int(q.Q[i]))
		}
		return s
	}
	s := joined(q.At)
	for _, i := range lined() {
		s += joined(int(q.Q[i]))
	}
	return s
}

func TestQuantsOfEachPlace(t *testing.T) {
	for at := range 4 {
		q := Quant{At: at, Q: ramp()}
		reads(t, 0xdb, quantBytes(q), Quants{L: []Quant{q}})
		q.Wide = true
		reads(t, 0xdb, quantBytes(q), Quants{L: []Quant{q}})
		for i := range q.Q {
			q.Q[i] = uint16(65535 - 997*i)
		}
		reads(t, 0xdb, quantBytes(q), Quants{L: []Quant{q}})
	}
}

func TestQuantsFirstByte(t *testing.T) {
	for n := range 256 {
		for _, rest := range []string{"", "\x00", strings.Repeat("\x01", 64), strings.Repeat("\x01", 128)} {
			if n/16 > 1 || n%16 > 3 {
				refuses(t, 0xdb, joined(n)+rest, api.ErrTable)
			}
		}
	}
}

func TestQuantsNoughts(t *testing.T) {
	for _, wide := range []bool{false, true} {
		size := 1
		if wide {
			size = 2
		}
		body := quantBytes(Quant{Wide: wide, Q: ramp()})
		for k := range 64 {
			at := 1 + k*size
			nought := body[:at] + strings.Repeat("\x00", size)
			// It is told as soon as it was read, whatever follows, but not ahead of its last byte.
			refuses(t, 0xdb, nought, api.ErrTable)
			refuses(t, 0xdb, nought+body[at+size:], api.ErrTable)
			refuses(t, 0xdb, nought+strings.Repeat("\x01", 200), api.ErrTable)
			refuses(t, 0xdb, body+nought, api.ErrTable)
			for n := at; n < at+size; n++ {
				refuses(t, 0xdb, nought[:n], api.ErrLen)
			}
		}
	}
	q := Quant{Wide: true, Q: ramp()}
	q.Q[0], q.Q[9] = 256, 0xff00
	reads(t, 0xdb, quantBytes(q), Quants{L: []Quant{q}})
}

func TestQuantsLengths(t *testing.T) {
	narrow, wide := Quant{At: 1, Q: ramp()}, Quant{At: 2, Wide: true, Q: ramp()}
	body := quantBytes(narrow) + quantBytes(wide) + quantBytes(narrow)
	whole := map[int]Quants{65: {L: []Quant{narrow}}, 194: {L: []Quant{narrow, wide}}, 259: {L: []Quant{narrow, wide, narrow}}}
	for n := range len(body) + 1 {
		if want, ok := whole[n]; ok {
			reads(t, 0xdb, body[:n], want)
		} else {
			refuses(t, 0xdb, body[:n], api.ErrLen)
		}
	}
	refuses(t, 0xdb, body+"\x04", api.ErrTable)
	refuses(t, 0xdb, body+"\x20", api.ErrTable)
	refuses(t, 0xdb, body+"\x00", api.ErrLen)
}

func TestQuantsAsManyAsFit(t *testing.T) {
	most := api.MaxTag / 65
	var want Quants
	for n := range most {
		want.L = append(want.L, Quant{At: n % 4, Q: ramp()})
	}
	var b strings.Builder
	for _, q := range want.L {
		b.WriteString(quantBytes(q))
	}
	reads(t, 0xdb, b.String(), want)
	refuses(t, 0xdb, b.String()+quantBytes(want.L[0]), api.ErrLen)
}

// huffBytes is a table's bytes.
func huffBytes(h Huff) string { return joined(16*h.Class+h.At) + string(h.Counts[:]) + h.Symbols }

// row is so many symbols, from 0 on, round and round.
func row(n int) string {
	b := make([]byte, n)
	for i := range b {
		b[i] = byte(i)
	}
	return string(b)
}

func TestHuffsOfEachPlace(t *testing.T) {
	for class := range 2 {
		for at := range 4 {
			for _, h := range []Huff{
				{Counts: [16]uint8{1}, Symbols: "\xff"}, {Counts: [16]uint8{15: 1}, Symbols: "\x00"},
				{Counts: [16]uint8{0, 1, 5, 1}, Symbols: row(7)}, {Counts: [16]uint8{7: 255, 8: 1}, Symbols: row(256)},
				{Counts: [16]uint8{14: 1, 15: 255}, Symbols: row(256)},
			} {
				h.Class, h.At = class, at
				reads(t, 0xc4, huffBytes(h), Huffs{L: []Huff{h}})
			}
		}
	}
}

func TestHuffsFirstByte(t *testing.T) {
	for n := range 256 {
		for _, rest := range []string{"", "\x01", "\x01" + strings.Repeat("\x00", 16)} {
			if n/16 > 1 || n%16 > 3 {
				refuses(t, 0xc4, joined(n)+rest, api.ErrTable)
			}
		}
	}
}

func TestHuffsThatAreNone(t *testing.T) {
	for i, h := range []Huff{
		{},
		{Counts: [16]uint8{2}, Symbols: "ab"},
		{Counts: [16]uint8{0, 4}, Symbols: "abcd"},
		{Counts: [16]uint8{1, 0, 4}, Symbols: "abcde"},
		{Counts: [16]uint8{0, 2}, Symbols: "aa"},
		{Counts: [16]uint8{8: 255, 9: 2}, Symbols: row(257)},
		{Counts: [16]uint8{255, 255, 255, 255, 255, 255, 255, 255, 255, 255, 255, 255, 255, 255, 255, 255}, Symbols: row(4080)},
	} {
		body := huffBytes(h)
		refuses(t, 0xc4, body, api.ErrTable)
		refuses(t, 0xc4, body+"\x00", api.ErrTable)
		refuses(t, 0xc4, huffBytes(Huff{Counts: [16]uint8{1}, Symbols: "a"})+body, api.ErrTable)
		// Symbols that aren't there are told ahead of what the table is.
		for n := range len(body) {
			if i < 6 || n < 40 || n > 4060 {
				refuses(t, 0xc4, body[:n], api.ErrLen)
			}
		}
	}
}

func TestHuffsLengths(t *testing.T) {
	a := Huff{Counts: [16]uint8{0, 1, 5, 1}, Symbols: "\x00\x01\x02\x03\x04\x05\x06"}
	b := Huff{Class: 1, At: 2, Counts: [16]uint8{15: 3}, Symbols: "xyz"}
	body := huffBytes(a) + huffBytes(b) + huffBytes(a)
	whole := map[int]Huffs{24: {L: []Huff{a}}, 44: {L: []Huff{a, b}}, 68: {L: []Huff{a, b, a}}}
	for n := range len(body) + 1 {
		if want, ok := whole[n]; ok {
			reads(t, 0xc4, body[:n], want)
		} else {
			refuses(t, 0xc4, body[:n], api.ErrLen)
		}
	}
	refuses(t, 0xc4, body+"\x04", api.ErrTable)
	refuses(t, 0xc4, body+"\x20", api.ErrTable)
	refuses(t, 0xc4, body+"\x13", api.ErrLen)
}

func TestHuffsAsManyAsFit(t *testing.T) {
	h := Huff{Counts: [16]uint8{1}, Symbols: "a"}
	most := api.MaxTag / 18
	reads(t, 0xc4, strings.Repeat(huffBytes(h), most), Huffs{L: slices.Repeat([]Huff{h}, most)})
}

// frameBytes is a frame's bytes; of numbers that don't fit their lowest bits.
func frameBytes(f Frame) string {
	s := joined(8, f.H>>8, f.H, f.W>>8, f.W, len(f.Comps))
	for _, p := range f.Comps {
		s += joined(p.Id, 16*p.H+p.V, p.Q)
	}
	return s
}

// colours is a frame of four components.
func colours(code int) Frame {
	return Frame{At: code, H: 16, W: 33, Comps: []Part{{1, 2, 2, 0}, {2, 1, 1, 1}, {3, 1, 4, 2}, {4, 3, 1, 3}}}
}

func TestFramesFirstByte(t *testing.T) {
	for _, code := range []int{0xc0, 0xc1, 0xc2} {
		f := colours(code)
		body := frameBytes(f)
		reads(t, code, body, f)
		for n := range 256 {
			if n != 8 {
				refuses(t, code, joined(n), api.ErrKind)
				refuses(t, code, joined(n)+body[1:], api.ErrKind)
				refuses(t, code, joined(n, 0, 0, 0, 0), api.ErrKind)
			}
		}
	}
}

func TestFramesSides(t *testing.T) {
	sides := []int{0, 1, 2, 255, 256, 257, 16383, 16384, 16385, 32768, 65535}
	for _, h := range sides {
		for _, w := range sides {
			f := Frame{At: 0xc0, H: h, W: w, Comps: []Part{{Id: 1, H: 1, V: 1}}}
			body := frameBytes(f)
			switch {
			case h == 0 || w == 0:
				refuses(t, 0xc0, body, api.ErrFrame)
				refuses(t, 0xc0, body[:5], api.ErrFrame)
			case h > 16384 || w > 16384:
				refuses(t, 0xc0, body, api.ErrLarge)
				refuses(t, 0xc0, body[:5], api.ErrLarge)
			default:
				reads(t, 0xc0, body, f)
				refuses(t, 0xc0, body[:5], api.ErrLen)
			}
			// Both sides are read ahead of being asked.
			for n := range 5 {
				refuses(t, 0xc0, body[:n], api.ErrLen)
			}
		}
	}
}

func TestFramesCounts(t *testing.T) {
	for n := range 256 {
		f := Frame{At: 0xc1, H: 9, W: 17}
		for i := range n {
			f.Comps = append(f.Comps, Part{Id: i, H: 1, V: 2, Q: 3})
		}
		body := frameBytes(f)
		switch {
		case n == 0:
			refuses(t, 0xc1, body, api.ErrFrame)
			refuses(t, 0xc1, body+"\x01\x11\x00", api.ErrFrame)
		case n > 4:
			refuses(t, 0xc1, body, api.ErrMany)
			refuses(t, 0xc1, body[:6], api.ErrMany)
		default:
			reads(t, 0xc1, body, f)
		}
	}
}

func TestFramesParts(t *testing.T) {
	for _, code := range []int{0xc0, 0xc1, 0xc2} {
		for i := range 4 {
			for n := range 256 {
				f := colours(code)
				f.Comps[i].H, f.Comps[i].V = n/16, n%16
				body := frameBytes(f)
				if h, v := n/16, n%16; h >= 1 && h <= 4 && v >= 1 && v <= 4 {
					reads(t, code, body, f)
				} else {
					refuses(t, code, body, api.ErrFrame)
					refuses(t, code, body[:8+3*i], api.ErrFrame)
				}
				f = colours(code)
				f.Comps[i].Q = n
				body = frameBytes(f)
				if n <= 3 {
					reads(t, code, body, f)
				} else {
					refuses(t, code, body, api.ErrFrame)
					refuses(t, code, body[:9+3*i], api.ErrFrame)
				}
			}
		}
	}
}

func TestFramesIds(t *testing.T) {
	for i := range 4 {
		for n := range 256 {
			f := colours(0xc2)
			f.Comps[i].Id = n
			body := frameBytes(f)
			if n == i+1 || n < 1 || n > 4 {
				reads(t, 0xc2, body, f)
				continue
			}
			refuses(t, 0xc2, body, api.ErrFrame)
			// It is told behind all of its component, whichever of the two comes later.
			end := 6 + 3*max(i+1, n)
			refuses(t, 0xc2, body[:end], api.ErrFrame)
			refuses(t, 0xc2, body[:end-1], api.ErrLen)
			refuses(t, 0xc2, body[:end-2], api.ErrLen)
		}
	}
}

func TestFramesLengths(t *testing.T) {
	f := colours(0xc0)
	body := frameBytes(f)
	for n := range len(body) {
		refuses(t, 0xc0, body[:n], api.ErrLen)
	}
	for n := 1; n < 20; n++ {
		refuses(t, 0xc0, body+strings.Repeat("\x11", n), api.ErrLen)
	}
	refuses(t, 0xc0, strings.Repeat("\x0c", api.MaxTag), api.ErrKind)
	refuses(t, 0xc0, strings.Repeat("\x0c", api.MaxTag+1), api.ErrLen)
}

// scanBytes is a scan's bytes; of numbers that don't fit their lowest bits.
func scanBytes(s Scan) string {
	b := joined(len(s.Comps))
	for _, p := range s.Comps {
		b += joined(p.Id, 16*p.Dc+p.Ac)
	}
	return b + joined(s.From, s.To, 16*s.High+s.Low)
}

// picked is a scan of four components.
func picked() Scan {
	return Scan{Comps: []Pick{{1, 0, 0}, {2, 1, 2}, {3, 3, 0}, {4, 0, 3}}, From: 1, To: 5, High: 2, Low: 1}
}

func TestScansCounts(t *testing.T) {
	for n := range 256 {
		s := Scan{To: 63}
		for i := range n {
			s.Comps = append(s.Comps, Pick{Id: 255 - i, Dc: i % 4, Ac: (i + 1) % 4})
		}
		body := scanBytes(s)
		if n >= 1 && n <= 4 {
			reads(t, 0xda, body, s)
		} else {
			refuses(t, 0xda, body, api.ErrScan)
			refuses(t, 0xda, body[:1], api.ErrScan)
		}
	}
}

func TestScansPicks(t *testing.T) {
	for i := range 4 {
		for n := range 256 {
			s := picked()
			s.Comps[i].Dc, s.Comps[i].Ac = n/16, n%16
			body := scanBytes(s)
			if n/16 <= 3 && n%16 <= 3 {
				reads(t, 0xda, body, s)
			} else {
				refuses(t, 0xda, body, api.ErrScan)
				refuses(t, 0xda, body[:3+2*i], api.ErrScan)
			}
			s = picked()
			s.Comps[i].Id = n
			body = scanBytes(s)
			if n == i+1 || n < 1 || n > 4 {
				reads(t, 0xda, body, s)
				continue
			}
			// It is told as soon as the later one of the two was read.
			end := 2 * max(i+1, n)
			refuses(t, 0xda, body, api.ErrScan)
			refuses(t, 0xda, body[:end], api.ErrScan)
			refuses(t, 0xda, body[:end-1], api.ErrLen)
		}
	}
}

func TestScansBands(t *testing.T) {
	for from := range 256 {
		for to := range 256 {
			s := Scan{Comps: []Pick{{Id: 9}}, From: from, To: to}
			body := scanBytes(s)
			if from <= to && to <= 63 {
				reads(t, 0xda, body, s)
				continue
			}
			refuses(t, 0xda, body, api.ErrScan)
			refuses(t, 0xda, body+"\x00", api.ErrScan)
			// All three bytes are read ahead of being asked.
			refuses(t, 0xda, body[:5], api.ErrLen)
			refuses(t, 0xda, body[:4], api.ErrLen)
		}
	}
	for n := range 256 {
		s := picked()
		s.High, s.Low = n/16, n%16
		if s.High <= 13 && s.Low <= 13 {
			reads(t, 0xda, scanBytes(s), s)
		} else {
			refuses(t, 0xda, scanBytes(s), api.ErrScan)
		}
	}
}

func TestScansLengths(t *testing.T) {
	body := scanBytes(picked())
	for n := range len(body) {
		refuses(t, 0xda, body[:n], api.ErrLen)
	}
	for n := 1; n < 20; n++ {
		refuses(t, 0xda, body+strings.Repeat("\x00", n), api.ErrLen)
	}
}

func TestExample(t *testing.T) {
	s, e := Parse(0xdd, "\x00\x08")
	if e != api.OK || s != (Restart{N: 8}) {
		t.Errorf("Parse = %v, %d", s, e)
	}
	if b, e := Bytes(s); b != "\xff\xdd\x00\x04\x00\x08" || e != api.OK {
		t.Errorf("Bytes = %x, %d", b, e)
	}
}

func TestWhatIsReadIsNewMemory(t *testing.T) {
	for code, body := range map[int]string{
		0xdb: quantBytes(Quant{Q: ramp()}) + quantBytes(Quant{Q: ramp()}) + quantBytes(Quant{Q: ramp()}),
		0xc4: strings.Repeat(huffBytes(Huff{Counts: [16]uint8{1}, Symbols: "a"}), 3),
		0xc0: frameBytes(colours(0xc0)), 0xda: scanBytes(picked()),
	} {
		a, _ := Parse(code, body)
		b, _ := Parse(code, body)
		switch x := a.(type) {
		case Quants:
			clear(x.L[:cap(x.L)])
		case Huffs:
			clear(x.L[:cap(x.L)])
		case Frame:
			clear(x.Comps[:cap(x.Comps)])
		case Scan:
			clear(x.Comps[:cap(x.Comps)])
		}
		if reflect.DeepEqual(a, b) {
			t.Errorf("two answers of %x share a list", code)
		}
		reads(t, code, body, b)
	}
}

// The model: the chapter's rules once more, told by places of a body.

// stop is how the model gives up.
type stop api.Errno

// model is what is read of a body, told another way.
func model(code int, body string) (s Segment, e api.Errno) {
	defer func() {
		if what, ok := recover().(stop); ok {
			s, e = nil, api.Errno(what)
		}
	}()
	at := 0
	next := func() int {
		if at == len(body) {
			panic(stop(api.ErrLen))
		}
		at++
		return int(body[at-1])
	}
	must := func(ok bool, e api.Errno) {
		if !ok {
			panic(stop(e))
		}
	}
	switch code {
	case 0xdb:
		s = modelQuants(next, must, func() bool { return at == len(body) })
	case 0xc4:
		s = modelHuffs(next, must, func() bool { return at == len(body) })
	case 0xc0, 0xc1, 0xc2:
		s = modelFrame(code, next, must)
	case 0xda:
		s = modelScan(next, must)
	case 0xdd:
		s = Restart{N: next()<<8 + next()}
	}
	must(at == len(body), api.ErrLen)
	return s, api.OK
}

func modelQuants(next func() int, must func(bool, api.Errno), done func() bool) Segment {
	var s Quants
	for ok := true; ok; ok = !done() {
		first := next()
		must(slices.Contains([]int{0, 1, 2, 3, 16, 17, 18, 19}, first), api.ErrTable)
		q := Quant{At: first % 16, Wide: first >= 16}
		for _, i := range lined() {
			n := next()
			if q.Wide {
				n = n<<8 + next()
			}
			must(n > 0, api.ErrTable)
			q.Q[i] = uint16(n)
		}
		s.L = append(s.L, q)
	}
	return s
}

func modelHuffs(next func() int, must func(bool, api.Errno), done func() bool) Segment {
	var s Huffs
	for ok := true; ok; ok = !done() {
		first := next()
		must(slices.Contains([]int{0, 1, 2, 3, 16, 17, 18, 19}, first), api.ErrTable)
		h := Huff{Class: first / 16, At: first % 16}
		sum := 0
		for i := range 16 {
			n := next()
			h.Counts[i] = uint8(n)
			sum += n
		}
		for range sum {
			h.Symbols += joined(next())
		}
		_, e := huff.New(h.Counts, h.Symbols)
		must(e == api.OK, api.ErrTable)
		s.L = append(s.L, h)
	}
	return s
}

func modelFrame(code int, next func() int, must func(bool, api.Errno)) Segment {
	must(next() == 8, api.ErrKind)
	f := Frame{At: code}
	f.H = next()<<8 + next()
	f.W = next()<<8 + next()
	must(f.H*f.W > 0, api.ErrFrame)
	must(max(f.H, f.W) <= 16384, api.ErrLarge)
	n := next()
	must(n > 0, api.ErrFrame)
	must(n < 5, api.ErrMany)
	ids := map[int]bool{}
	for range n {
		id, hv := next(), next()
		must(hv/16 >= 1 && hv/16 <= 4 && hv%16 >= 1 && hv%16 <= 4, api.ErrFrame)
		q := next()
		must(q < 4, api.ErrFrame)
		must(!ids[id], api.ErrFrame)
		ids[id] = true
		f.Comps = append(f.Comps, Part{id, hv / 16, hv % 16, q})
	}
	return f
}

func modelScan(next func() int, must func(bool, api.Errno)) Segment {
	n := next()
	must(n >= 1 && n <= 4, api.ErrScan)
	var s Scan
	ids := map[int]bool{}
	for range n {
		id := next()
		must(!ids[id], api.ErrScan)
		ids[id] = true
		places := next()
		must(places&0xcc == 0, api.ErrScan)
		s.Comps = append(s.Comps, Pick{id, places / 16, places % 16})
	}
	s.From, s.To = next(), next()
	shifts := next()
	s.High, s.Low = shifts/16, shifts%16
	must(s.From <= s.To && s.To < 64 && s.High < 14 && s.Low < 14, api.ErrScan)
	return s
}

// held fails the test, if a body is read otherwise than the model has it.
func held(t *testing.T, code int, body string) {
	t.Helper()
	want, e := model(code, body)
	if e != api.OK {
		refuses(t, code, body, e)
		return
	}
	reads(t, code, body, want)
}

// rightBodies is bodies of right segments, by their codes.
func rightBodies() map[int][]string {
	m := map[int][]string{}
	for _, s := range rightOnes() {
		switch x := s.(type) {
		case Quants:
			var b string
			for _, q := range x.L {
				b += quantBytes(q)
			}
			m[0xdb] = append(m[0xdb], b)
		case Huffs:
			var b string
			for _, h := range x.L {
				b += huffBytes(h)
			}
			m[0xc4] = append(m[0xc4], b)
		case Frame:
			m[x.At] = append(m[x.At], frameBytes(x))
		case Scan:
			m[0xda] = append(m[0xda], scanBytes(x))
		case Restart:
			m[0xdd] = append(m[0xdd], joined(x.N>>8, x.N))
		}
	}
	return m
}

func TestOneByteChanged(t *testing.T) {
	for code, bodies := range rightBodies() {
		for _, body := range bodies {
			held(t, code, body)
			for at := range body {
				for n := range 256 {
					if len(body) < 100 || n < 35 || n > 250 {
						held(t, code, change(body, at, n))
					}
				}
			}
		}
	}
}

func TestMixedBodies(t *testing.T) {
	mix := rand.New(rand.NewPCG(7, 1))
	all := rightBodies()
	told := map[string]int{}
	for range 40000 {
		code := otherCodes[mix.IntN(len(otherCodes))]
		bodies := all[code]
		body := bodies[mix.IntN(len(bodies))]
		for range mix.IntN(4) {
			switch at := mix.IntN(len(body) + 1); mix.IntN(4) {
			case 0:
				body = body[:at]
			case 1:
				body = body[:at] + joined(mix.IntN(256)>>mix.IntN(8)) + body[at:]
			case 2:
				body += bodies[mix.IntN(len(bodies))]
			case 3:
				if at < len(body) {
					body = change(body, at, mix.IntN(256)>>mix.IntN(8))
				}
			}
		}
		held(t, code, body)
		_, e := Parse(code, body)
		told[fmt.Sprintf("%x %d", code, e)]++
	}
	for _, want := range []string{"db 0", "db 4", "db 5", "c4 0", "c4 4", "c4 5", "c0 0", "c0 4", "c0 6", "c0 7", "c0 11", "c0 12", "c2 0", "da 0", "da 4", "da 8", "dd 0", "dd 4"} {
		if told[want] == 0 {
			t.Errorf("no body of the code and error %s came", want)
		}
	}
}

func FuzzParse(f *testing.F) {
	for code, bodies := range rightBodies() {
		for _, body := range bodies {
			f.Add(code, body)
		}
	}
	f.Add(0xfe, "hi")
	f.Add(0xd8, "")
	f.Fuzz(func(t *testing.T, code int, body string) {
		if slices.Contains(otherCodes, code) && len(body) <= api.MaxTag {
			held(t, code, body)
			return
		}
		s, e := Parse(code, body)
		if e != api.OK {
			refuses(t, code, body, e)
			return
		}
		reads(t, code, body, Plain{At: code, Body: body})
		back(t, code, body, s)
	})
}
