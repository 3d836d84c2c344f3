package seg

import (
	"errors"
	"math"
	"reflect"
	"runtime"
	"slices"
	"testing"

	"aquatint/api"
)

// far are numbers that stand nowhere in a segment.
var far = []int{math.MinInt, math.MinInt + 1, -1 << 60, -1 << 32, -65536, -256, -16, -1,
	65536, 65537, 1 << 24, 1 << 32, 1 << 60, 1<<60 + 1, 1 << 62, math.MaxInt - 1, math.MaxInt}

// stranger is a segment of a type that isn't seg's: it has a code of its own.
type stranger struct{ code int }

func (s stranger) Code() int { return s.code }

// trap is a segment that may not be asked for its code.
type trap struct{}

func (trap) Code() int { panic("the code of a stranger was asked for") }

// dressed is a frame within another type: its code is the frame's.
type dressed struct{ Frame }

// ramp is 64 numbers that differ, none of them 0.
func ramp() [64]uint16 {
	var q [64]uint16
	for i := range q {
		q[i] = uint16(i + 1)
	}
	return q
}

// rightOnes is at least one right segment of each kind, made without being read.
func rightOnes() []Segment {
	wide := ramp()
	wide[63], wide[1] = 65535, 256
	deep := Huff{Class: 1, At: 3, Counts: [16]uint8{1, 1, 1, 1, 1, 1, 1, 1, 1, 1, 1, 1, 1, 1, 1, 1}, Symbols: "\x00\xff\x01\xfe23456789abcd"}
	flat := Huff{Counts: [16]uint8{0, 2}, Symbols: "\x00\xff"}
	return []Segment{
		Bare{At: 0xd0}, Bare{At: 0xd7}, Bare{At: 0xd8}, Bare{At: 0xd9},
		Plain{At: 0xe0}, Plain{At: 0xef, Body: "\xff\xd9\x00"}, Plain{At: 0xfe, Body: "hi"},
		Quants{L: []Quant{{Q: ramp()}}},
		Quants{L: []Quant{{At: 3, Wide: true, Q: wide}, {At: 3, Q: ramp()}, {At: 1, Wide: true, Q: ramp()}}},
		Huffs{L: []Huff{flat}}, Huffs{L: []Huff{deep, flat, flat}},
		Frame{At: 0xc0, H: 1, W: 16384, Comps: []Part{{Id: 0, H: 1, V: 4, Q: 3}}},
		Frame{At: 0xc1, H: 16384, W: 1, Comps: []Part{{Id: 255, H: 4, V: 1}, {Id: 254, H: 1, V: 1, Q: 2}}},
		Frame{At: 0xc2, H: 300, W: 200, Comps: []Part{{1, 2, 2, 0}, {2, 1, 1, 1}, {3, 1, 1, 1}, {4, 4, 4, 3}}},
		Scan{Comps: []Pick{{Id: 7}}, To: 63},
		Scan{Comps: []Pick{{3, 0, 3}, {2, 3, 0}, {255, 1, 2}, {0, 3, 3}}, From: 63, To: 63, High: 13, Low: 12},
		Restart{}, Restart{N: 8}, Restart{N: 65535},
	}
}

// Promise 7.3: what a segment is.

func TestCodeOfEach(t *testing.T) {
	for _, x := range []struct {
		s    Segment
		code int
	}{
		{Bare{At: 0xd3}, 0xd3}, {Bare{At: -7}, -7}, {Plain{At: 0xe5, Body: "x"}, 0xe5}, {Plain{At: math.MaxInt}, math.MaxInt},
		{Quants{}, 0xdb}, {Quants{L: []Quant{{At: 2}}}, 0xdb}, {Huffs{}, 0xc4}, {Huffs{L: []Huff{{At: 2}}}, 0xc4},
		{Frame{At: 0xc2, H: 1}, 0xc2}, {Frame{}, 0}, {Scan{}, 0xda}, {Scan{From: 3}, 0xda}, {Restart{}, 0xdd}, {Restart{N: 0xc4}, 0xdd},
	} {
		if n := x.s.Code(); n != x.code {
			t.Errorf("Code of %#v = %x, want %x", x.s, n, x.code)
		}
	}
}

// others is segments that are nothing that is asked for here.
func others() []Segment {
	return []Segment{nil, (*Frame)(nil), (*Scan)(nil), (*Plain)(nil), &Frame{At: 0xc0}, &Scan{}, &Plain{At: 0xfe},
		stranger{0xc0}, stranger{0xda}, stranger{0xfe}, trap{}, dressed{Frame{At: 0xc0, H: 1, W: 1}}}
}

func TestWhichItIs(t *testing.T) {
	for _, s := range append(rightOnes(), others()...) {
		var frame Frame
		var scan Scan
		var tag api.Tag
		kind := reflect.TypeOf(s)
		switch {
		case kind == reflect.TypeOf(frame):
			frame = s.(Frame)
		case kind == reflect.TypeOf(scan):
			scan = s.(Scan)
		case kind == reflect.TypeOf(Plain{}):
			tag = api.Tag{Kind: s.(Plain).At, Body: s.(Plain).Body}
		}
		if f, ok := IsFrame(s); ok != (kind == reflect.TypeOf(frame)) || !reflect.DeepEqual(f, frame) {
			t.Errorf("IsFrame of %T %v = %v, %v", s, s, f, ok)
		}
		if x, ok := IsScan(s); ok != (kind == reflect.TypeOf(scan)) || !reflect.DeepEqual(x, scan) {
			t.Errorf("IsScan of %T %v = %v, %v", s, s, x, ok)
		}
		if x, ok := IsTag(s); ok != (kind == reflect.TypeOf(Plain{})) || x != tag {
			t.Errorf("IsTag of %T %v = %v, %v", s, s, x, ok)
		}
	}
}

func TestWhichItIsWhetherRightOrNot(t *testing.T) {
	f := Frame{At: 0xdd, H: -1, W: math.MaxInt}
	if g, ok := IsFrame(f); !ok || !reflect.DeepEqual(g, f) {
		t.Errorf("IsFrame = %v, %v", g, ok)
	}
	if g := MustFrame(f); !reflect.DeepEqual(g, f) {
		t.Errorf("MustFrame = %v", g)
	}
	x := Scan{From: 99, High: -3}
	if y, ok := IsScan(x); !ok || !reflect.DeepEqual(y, x) {
		t.Errorf("IsScan = %v, %v", y, ok)
	}
	if y, ok := IsTag(Plain{At: 0xdd, Body: "b"}); !ok || y != (api.Tag{Kind: 0xdd, Body: "b"}) {
		t.Errorf("IsTag = %v, %v", y, ok)
	}
}

// caught is what MustFrame panics with.
func caught(s Segment) (what any) {
	defer func() { what = recover() }()
	MustFrame(s)
	return nil
}

func TestMustFrame(t *testing.T) {
	for _, s := range append(rightOnes(), others()...) {
		what := caught(s)
		if f, ok := s.(Frame); ok {
			if what != nil || !reflect.DeepEqual(MustFrame(s), f) {
				t.Errorf("MustFrame of %v panics with %v, or is another", s, what)
			}
			continue
		}
		e, ok := what.(error)
		if !ok {
			t.Fatalf("MustFrame of a %T panics with %v", s, what)
		}
		if own := (*runtime.TypeAssertionError)(nil); !errors.As(e, &own) {
			t.Errorf("MustFrame of a %T panics with the %T %v", s, e, e)
		}
	}
}

// frames is each way to have a segment as a frame.
func frames(s Segment) []Frame {
	f, _ := IsFrame(s)
	return []Frame{f, MustFrame(s)}
}

func TestListsAreNotShared(t *testing.T) {
	room := make([]Part, 2, 9)
	room[0], room[1] = Part{1, 1, 1, 1}, Part{2, 2, 2, 2}
	was := slices.Clone(room[:9])
	for i := range 2 {
		f := frames(Frame{At: 0xc0, Comps: room})[i]
		all := append(f.Comps, Part{Id: 9})
		for k := range all {
			all[k] = Part{Id: -1}
		}
		for k := range f.Comps {
			f.Comps[k] = Part{Id: -1}
		}
		if !slices.Equal(room[:9], was) {
			t.Errorf("what was handed in became %v", room[:9])
		}
		g := frames(Frame{At: 0xc0, Comps: room})[i]
		room[0].Id = 77
		if g.Comps[0].Id != 1 {
			t.Errorf("what was handed out became %v", g)
		}
		room[0].Id = 1
	}
	picks := append(make([]Pick, 0, 9), Pick{1, 1, 1})
	s, _ := IsScan(Scan{Comps: picks})
	_ = append(s.Comps, Pick{Id: 5})
	s.Comps[0].Id = -1
	if picks[0].Id != 1 || picks[:2][1].Id != 0 {
		t.Errorf("what was handed in became %v", picks[:2])
	}
	s, _ = IsScan(Scan{Comps: picks})
	picks[0].Id = 77
	if s.Comps[0].Id != 1 {
		t.Errorf("what was handed out became %v", s)
	}
}
