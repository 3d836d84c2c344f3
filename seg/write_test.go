package seg

import (
	"math/rand/v2"
	"reflect"
	"slices"
	"strings"
	"testing"

	"aquatint/api"
)

// writes fails the test, if a segment isn't written as wanted.
func writes(t *testing.T, s Segment, want string) {
	t.Helper()
	if b, e := Bytes(s); b != want || e != api.OK {
		t.Fatalf("Bytes of %#v = %x, %d, want %x", s, b, e, want)
	}
}

// unwritten fails the test, if a segment is written.
func unwritten(t *testing.T, s Segment) {
	t.Helper()
	if b, e := Bytes(s); b != "" || e != api.ErrArg {
		t.Fatalf("Bytes of a %T %v = %.80x, %d, want ErrArg", s, s, b, e)
	}
}

// Promise 7.2: segments written.

func TestBytesOfEachKind(t *testing.T) {
	along := "\x01\x02\x09\x11\x0a\x03\x04\x0b"
	quant, e := Bytes(Quants{L: []Quant{{At: 2, Q: ramp()}}})
	if e != api.OK || len(quant) != 69 || !strings.HasPrefix(quant, "\xff\xdb\x00\x43\x02"+along) || !strings.HasSuffix(quant, "\x38\x3f\x40") {
		t.Errorf("Bytes of a table = %x, %d", quant, e)
	}
	wide, e := Bytes(Quants{L: []Quant{{At: 3, Wide: true, Q: ramp()}}})
	if e != api.OK || len(wide) != 133 || !strings.HasPrefix(wide, "\xff\xdb\x00\x83\x13\x00\x01\x00\x02\x00\x09\x00\x11") {
		t.Errorf("Bytes of a wide table = %x, %d", wide, e)
	}
	writes(t, Plain{At: 0xe0}, "\xff\xe0\x00\x02")
	writes(t, Plain{At: 0xfe, Body: "hi"}, "\xff\xfe\x00\x04hi")
	writes(t, Plain{At: 0xef, Body: "\xff\xd9\xff"}, "\xff\xef\x00\x05\xff\xd9\xff")
	writes(t, Restart{N: 8}, "\xff\xdd\x00\x04\x00\x08")
	writes(t, Restart{}, "\xff\xdd\x00\x04\x00\x00")
	writes(t, Huffs{L: []Huff{{Class: 1, At: 3, Counts: [16]uint8{0, 2, 15: 1}, Symbols: "\xffab"}}},
		"\xff\xc4\x00\x16\x13\x00\x02\x00\x00\x00\x00\x00\x00\x00\x00\x00\x00\x00\x00\x00\x01\xffab")
	writes(t, Frame{At: 0xc2, H: 258, W: 772, Comps: []Part{{200, 4, 3, 2}, {0, 1, 2, 3}}},
		"\xff\xc2\x00\x0e\x08\x01\x02\x03\x04\x02\xc8\x43\x02\x00\x12\x03")
	writes(t, Scan{Comps: []Pick{{200, 3, 2}, {0, 1, 0}}, From: 6, To: 62, High: 13, Low: 12},
		"\xff\xda\x00\x0a\x02\xc8\x32\x00\x10\x06\x3e\xdc")
}

func TestBytesOfBare(t *testing.T) {
	for n := -600; n <= 600; n++ {
		if slices.Contains(bareCodes, n) {
			writes(t, Bare{At: n}, joined(0xff, n))
		} else {
			unwritten(t, Bare{At: n})
		}
	}
	for _, n := range append([]int{1<<32 + 0xd8, 0x1d8}, far...) {
		unwritten(t, Bare{At: n})
	}
}

func TestBytesOfPlain(t *testing.T) {
	for n := -600; n <= 600; n++ {
		for _, body := range []string{"", "ab", "\x00\x08", frameBytes(colours(0xc0)), scanBytes(picked()), quantBytes(Quant{Q: ramp()})} {
			if slices.Contains(plainCodes, n) {
				writes(t, Plain{At: n, Body: body}, joined(0xff, n, 0, len(body)+2)+body)
			} else {
				unwritten(t, Plain{At: n, Body: body})
			}
		}
	}
	for _, n := range far {
		unwritten(t, Plain{At: n, Body: "ab"})
	}
	long := strings.Repeat("x", api.MaxTag)
	writes(t, Plain{At: 0xe1, Body: long}, "\xff\xe1\xff\xff"+long)
	unwritten(t, Plain{At: 0xe1, Body: long + "x"})
	unwritten(t, Plain{At: 0xfe, Body: strings.Repeat(long, 30)})
}

func TestBytesOfStrangers(t *testing.T) {
	for _, s := range others() {
		unwritten(t, s)
	}
	for _, s := range []Segment{(*Bare)(nil), (*Quants)(nil), (*Huffs)(nil), (*Restart)(nil), &Bare{At: 0xd8}, &Restart{N: 8},
		&Quants{L: []Quant{{Q: ramp()}}}, stranger{0xd8}, stranger{0xdd}, stranger{0}, dressed{colours(0xc0)}, &trap{}} {
		unwritten(t, s)
	}
}

func TestBytesOfRestarts(t *testing.T) {
	for n := range 65536 {
		writes(t, Restart{N: n}, joined(0xff, 0xdd, 0, 4, n>>8, n))
	}
	for _, n := range far {
		unwritten(t, Restart{N: n})
	}
}

func TestBytesRefusesQuants(t *testing.T) {
	unwritten(t, Quants{})
	unwritten(t, Quants{L: []Quant{}})
	for _, wide := range []bool{false, true} {
		good := Quant{At: 1, Wide: wide, Q: ramp()}
		for _, n := range append([]int{4, 5, 15, 16, 17, 19, 20, 32, 255, 256, 257}, far...) {
			bad := good
			bad.At = n
			unwritten(t, Quants{L: []Quant{bad}})
			unwritten(t, Quants{L: []Quant{good, bad}})
			unwritten(t, Quants{L: []Quant{bad, good}})
		}
		for i := range 64 {
			bad := good
			bad.Q[i] = 0
			unwritten(t, Quants{L: []Quant{bad}})
			unwritten(t, Quants{L: []Quant{good, bad}})
			for _, n := range []uint16{256, 257, 0x0101, 65535} {
				bad.Q[i] = n
				if !wide {
					unwritten(t, Quants{L: []Quant{bad}})
				} else {
					writes(t, Quants{L: []Quant{bad}}, "\xff\xdb\x00\x83"+quantBytes(bad))
				}
			}
		}
	}
	l := slices.Repeat([]Quant{{Q: ramp()}}, api.MaxTag/65)
	if _, e := Bytes(Quants{L: l}); e != api.OK {
		t.Errorf("Bytes of as many tables as fit = %d", e)
	}
	unwritten(t, Quants{L: append(l, l[0])})
	unwritten(t, Quants{L: slices.Repeat(l, 5)})
}

func TestBytesRefusesHuffs(t *testing.T) {
	good := Huff{Class: 1, At: 1, Counts: [16]uint8{0, 1, 5, 1}, Symbols: row(7)}
	unwritten(t, Huffs{})
	unwritten(t, Huffs{L: []Huff{}})
	change := func(f func(h *Huff)) {
		bad := good
		f(&bad)
		unwritten(t, Huffs{L: []Huff{bad}})
		unwritten(t, Huffs{L: []Huff{good, bad}})
		unwritten(t, Huffs{L: []Huff{bad, good}})
	}
	for _, n := range append([]int{4, 5, 15, 16, 17, 19, 20, 255}, far...) {
		change(func(h *Huff) { h.At = n })
		change(func(h *Huff) { h.Class = n })
		change(func(h *Huff) { h.Class, h.At = 0, n })
		// The byte of both is that of a right table.
		change(func(h *Huff) { h.Class, h.At = n, 1-16*n })
	}
	change(func(h *Huff) { h.Class, h.At = 0, 16 })
	change(func(h *Huff) { h.Class, h.At = 2, -16 })
	for _, s := range []string{"", row(6), row(8), "aaaaaaa", row(7) + huffBytes(good), row(7) + "\x00"} {
		change(func(h *Huff) { h.Symbols = s })
	}
	change(func(h *Huff) { h.Counts[3] = 0 })
	change(func(h *Huff) { h.Counts[3] = 2 })
	change(func(h *Huff) { h.Counts, h.Symbols = [16]uint8{}, "" })
	change(func(h *Huff) { h.Counts, h.Symbols = [16]uint8{2}, "ab" })
	change(func(h *Huff) { h.Counts, h.Symbols = [16]uint8{8: 255, 9: 2}, row(257) })
	// A table that has another one's bytes behind its own symbols is read as two.
	two := Huffs{L: []Huff{good, good}}
	writes(t, two, "\xff\xc4\x00\x32"+huffBytes(good)+huffBytes(good))
	unwritten(t, Huffs{L: slices.Repeat([]Huff{good}, api.MaxTag/24+1)})
}

func TestBytesRefusesFrames(t *testing.T) {
	for _, code := range []int{0xc0, 0xc1, 0xc2} {
		writes(t, colours(code), joined(0xff, code, 0, 20)+frameBytes(colours(code)))
		change := func(f func(s *Frame)) {
			bad := colours(code)
			f(&bad)
			unwritten(t, bad)
		}
		for n := -300; n <= 600; n++ {
			if n < 0xc0 || n > 0xc2 {
				change(func(s *Frame) { s.At = n })
			}
		}
		for _, n := range append([]int{0, 16385, 32768, 65535}, far...) {
			change(func(s *Frame) { s.H = n })
			change(func(s *Frame) { s.W = n })
			change(func(s *Frame) { s.H, s.W = n, n })
		}
		for i := range 4 {
			for _, n := range append([]int{0, 5, 15, 16, 17, 255, 256}, far...) {
				change(func(s *Frame) { s.Comps[i].H = n })
				change(func(s *Frame) { s.Comps[i].V = n })
				// The byte of both is that of 2 and 2.
				change(func(s *Frame) { s.Comps[i].H, s.Comps[i].V = n, 34-16*n })
			}
			for _, n := range append([]int{4, 5, 16, 255, 256, 257}, far...) {
				change(func(s *Frame) { s.Comps[i].Q = n })
			}
			for _, n := range append([]int{256, 257, 260, neighbour(i)}, far...) {
				change(func(s *Frame) { s.Comps[i].Id = n })
			}
		}
		for _, n := range []int{0, 5, 6, 255, 256, 257, 260, 5000, 70000} {
			change(func(s *Frame) {
				s.Comps = nil
				for i := range n {
					s.Comps = append(s.Comps, Part{Id: i % 256, H: 1, V: 1})
				}
			})
		}
	}
	unwritten(t, Frame{})
	unwritten(t, Frame{At: 0xc0})
}

// neighbour is the id of another component of colours and picked than that at a place.
func neighbour(i int) int { return (i+1)%4 + 1 }

func TestBytesRefusesFrameOfOtherCodes(t *testing.T) {
	// What is no frame's code may have a body that is right for it: it is read as another segment.
	f := Frame{At: 0xe0, H: 1, W: 1, Comps: []Part{{1, 1, 1, 0}}}
	unwritten(t, f)
	f.At = 0xfe
	unwritten(t, f)
	f.At = 0xd8
	unwritten(t, f)
}

func TestBytesRefusesScans(t *testing.T) {
	writes(t, picked(), "\xff\xda\x00\x0e"+scanBytes(picked()))
	change := func(f func(s *Scan)) {
		bad := picked()
		f(&bad)
		unwritten(t, bad)
	}
	for _, n := range append([]int{6, 64, 255, 256, 257}, far...) {
		change(func(s *Scan) { s.From = n })
	}
	for _, n := range append([]int{0, 64, 65, 255, 256, 261}, far...) {
		change(func(s *Scan) { s.To = n })
	}
	for _, n := range append([]int{14, 15, 16, 17, 255, 256}, far...) {
		change(func(s *Scan) { s.High = n })
		change(func(s *Scan) { s.Low = n })
		change(func(s *Scan) { s.High, s.Low = n, 1-16*n })
	}
	for i := range 4 {
		for _, n := range append([]int{4, 5, 15, 16, 17, 255, 256}, far...) {
			change(func(s *Scan) { s.Comps[i].Dc = n })
			change(func(s *Scan) { s.Comps[i].Ac = n })
			change(func(s *Scan) { s.Comps[i].Dc, s.Comps[i].Ac = n, 1-16*n })
		}
		for _, n := range append([]int{256, 257, 260, neighbour(i)}, far...) {
			change(func(s *Scan) { s.Comps[i].Id = n })
		}
	}
	for _, n := range []int{0, 5, 6, 255, 256, 257, 260, 5000, 70000} {
		change(func(s *Scan) {
			s.Comps = nil
			for i := range n {
				s.Comps = append(s.Comps, Pick{Id: i % 256})
			}
		})
	}
	unwritten(t, Scan{})
	unwritten(t, Scan{To: 63})
}

func TestBytesChangesNothing(t *testing.T) {
	again := rightOnes()
	for i, s := range rightOnes() {
		a, e := Bytes(s)
		if e != api.OK || !reflect.DeepEqual(s, again[i]) {
			t.Errorf("Bytes of %v, %d: it became %v", again[i], e, s)
		}
		if b, _ := Bytes(s); a != b {
			t.Errorf("Bytes of %v: %x, and then %x", s, a, b)
		}
	}
	f := colours(0xc0)
	f.Comps = append(make([]Part, 0, 9), f.Comps...)
	f.Comps[0].H = 7
	Bytes(f)
	Bytes(Frame{At: 0xc0, H: 1, W: 1, Comps: f.Comps[:2]})
	if !reflect.DeepEqual(f.Comps[1:], colours(0xc0).Comps[1:]) || f.Comps[0].H != 7 || f.Comps[:5][4] != (Part{}) {
		t.Errorf("what was handed in became %v", f.Comps[:9])
	}
}

// Promise 7.4: what is parsed is written back, and what is written is parsed.

func TestRightOnesAreReadAgain(t *testing.T) {
	for _, s := range rightOnes() {
		b, e := Bytes(s)
		if e != api.OK {
			t.Fatalf("Bytes of %v = %d", s, e)
		}
		if _, ok := s.(Bare); ok {
			continue
		}
		if n := int(b[2])<<8 + int(b[3]); b[0] != 0xff || int(b[1]) != s.Code() || n != len(b)-2 {
			t.Errorf("Bytes of %v = %x", s, b)
		}
		reads(t, int(b[1]), b[4:], s)
	}
}

// mixedSegment is a segment whose numbers are right more often than not.
func mixedSegment(mix *rand.Rand) Segment {
	some := func(top int) int {
		if mix.IntN(60) == 0 {
			return far[mix.IntN(len(far))]
		}
		return mix.IntN(top)
	}
	switch mix.IntN(4) {
	case 0:
		f := Frame{At: 0xc0 + some(3), H: some(16386), W: some(16386)}
		for range some(5) & 7 {
			f.Comps = append(f.Comps, Part{some(256), 1 + some(4), 1 + some(4), some(4)})
		}
		return f
	case 1:
		s := Scan{From: some(20), To: some(64), High: some(14), Low: some(14)}
		for range some(5) & 7 {
			s.Comps = append(s.Comps, Pick{some(256), some(4), some(4)})
		}
		return s
	case 2:
		var s Quants
		for range some(4) & 3 {
			q := Quant{At: some(4), Wide: mix.IntN(2) == 0}
			for i := range q.Q {
				q.Q[i] = uint16(1 + mix.IntN(255))
			}
			q.Q[mix.IntN(64)] = uint16(mix.IntN(65536) >> mix.IntN(16))
			s.L = append(s.L, q)
		}
		return s
	}
	var s Huffs
	for range some(4) & 3 {
		h := Huff{Class: some(2), At: some(4)}
		for i := range h.Counts {
			h.Counts[i] = uint8(mix.IntN(4) * mix.IntN(2))
		}
		sum := 0
		for _, n := range h.Counts {
			sum += int(n)
		}
		if h.Symbols = row(max(0, sum)); mix.IntN(10) == 0 {
			h.Symbols = row(mix.IntN(40))
		}
		s.L = append(s.L, h)
	}
	return s
}

func TestMixedSegments(t *testing.T) {
	mix := rand.New(rand.NewPCG(7, 2))
	written := map[reflect.Type]int{}
	refused := map[reflect.Type]int{}
	for range 20000 {
		s := mixedSegment(mix)
		b, e := Bytes(s)
		if e != api.OK {
			unwritten(t, s)
			if rightly(s) {
				t.Fatalf("Bytes of %#v = %d", s, e)
			}
			refused[reflect.TypeOf(s)]++
			continue
		}
		written[reflect.TypeOf(s)]++
		reads(t, int(b[1]), b[4:], s)
	}
	for _, s := range []Segment{Frame{}, Scan{}, Quants{}, Huffs{}} {
		if kind := reflect.TypeOf(s); written[kind] < 100 || refused[kind] < 100 {
			t.Errorf("of %v %d were written, %d refused", kind, written[kind], refused[kind])
		}
	}
}

// rightly tells by the model whether a segment is one that is read.
func rightly(s Segment) bool {
	var body string
	switch x := s.(type) {
	case Frame:
		body = frameBytes(x)
	case Scan:
		body = scanBytes(x)
	case Quants:
		for _, q := range x.L {
			body += quantBytes(q)
		}
	case Huffs:
		for _, h := range x.L {
			body += huffBytes(h)
		}
	}
	again, e := model(s.Code(), body)
	return e == api.OK && reflect.DeepEqual(again, s)
}
