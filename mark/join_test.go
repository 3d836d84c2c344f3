package mark

import (
	"math"
	"math/rand/v2"
	"reflect"
	"slices"
	"strings"
	"testing"

	"aquatint/api"
	"aquatint/seg"
)

// joins fails the test, if pieces aren't joined to a file, or that isn't split
// as they are (8.4), or if they are changed.
func joins(t *testing.T, want string, l ...Piece) {
	t.Helper()
	was := slices.Clone(l)
	if s, e := Join(l); s != want || e != api.OK {
		t.Fatalf("Join of %v = %.200x, %d, want %.200x", l, s, e, want)
	}
	if !same(l, was) {
		t.Fatalf("what was handed in was %v, and became %v", was, l)
	}
	if again, _, e := Split(want); e != api.OK || !same(placeless(again), placeless(l)) {
		t.Fatalf("what was joined of %v is split as %v, %d", l, again, e)
	}
}

// unjoined fails the test, if pieces are joined.
func unjoined(t *testing.T, l ...Piece) {
	t.Helper()
	was := slices.Clone(l)
	if s, e := Join(l); s != "" || e != api.ErrArg {
		t.Fatalf("Join of %.200v = %.200x, %d, want ErrArg", l, s, e)
	}
	if !same(l, was) {
		t.Fatalf("what was handed in was %v, and became %v", was, l)
	}
}

// placeless is pieces without their places.
func placeless(l []Piece) []Piece {
	out := slices.Clone(l)
	for i := range out {
		out[i].At = 0
	}
	return out
}

// thereAndBack fails the test, if what a file is split into isn't joined to a
// file that is split alike.
func thereAndBack(t *testing.T, file string) {
	t.Helper()
	l, _, e := Split(file)
	if e != api.OK {
		t.Fatalf("Split of %x = %d", file, e)
	}
	s, e := Join(l)
	if e != api.OK {
		t.Fatalf("Join of what %x is split into = %d", file, e)
	}
	if again, _, e := Split(s); e != api.OK || !same(placeless(again), placeless(l)) {
		t.Fatalf("%x is split into %v, but as joined, %x, into %v", file, l, s, again)
	}
	if twice, e := Join(l); twice != s || e != api.OK {
		t.Fatalf("Join of %v = %x, and then %x, %d", l, s, twice, e)
	}
}

// hi is the piece that note is.
func hi() Piece { return Piece{Seg: seg.Plain{At: 0xfe, Body: "hi"}} }

// stranger is a segment of a type that isn't seg's.
type stranger struct{}

func (stranger) Code() int { panic("the code of a stranger was asked for") }

// dressed is a segment within another type.
type dressed struct{ seg.Plain }

// strangers are segments that are none that can be written.
func strangers() []seg.Segment {
	return []seg.Segment{nil, stranger{}, &stranger{}, dressed{seg.Plain{At: 0xfe}}, (*seg.Plain)(nil), (*seg.Scan)(nil), (*seg.Bare)(nil), &seg.Plain{At: 0xfe}, &seg.Restart{N: 1},
		seg.Plain{}, seg.Plain{At: 0xda}, seg.Plain{At: -1}, seg.Plain{At: math.MaxInt}, seg.Plain{At: 0xe0, Body: strings.Repeat("x", api.MaxTag+1)},
		seg.Quants{}, seg.Huffs{}, seg.Frame{}, seg.Scan{}, seg.Scan{Comps: []seg.Pick{{Id: 256}}}, seg.Restart{N: -1}, seg.Restart{N: 65536}, seg.Quants{L: []seg.Quant{{}}}}
}

// Promise 8.2: pieces joined.

func TestJoinOfAFewPieces(t *testing.T) {
	joins(t, "\xff\xd8\xff\xd9")
	joins(t, "\xff\xd8\xff\xd9", []Piece{}...)
	joins(t, "\xff\xd8"+note+"\xff\xd9", hi())
	joins(t, "\xff\xd8"+note+note+"\xff\xd9", hi(), hi())
	joins(t, "\xff\xd8"+scanned+"\xff\xd9", Piece{Seg: scan()})
	joins(t, "\xff\xd8"+scanned+"\x12\xff\x00\xff\xd9", Piece{Seg: scan(), Data: "\x12\xff\x00"})
	joins(t, "\xff\xd8"+framed+scanned+"a"+note+scanned+"b\xff\xd9", Piece{Seg: frame()}, Piece{Seg: scan(), Data: "a"}, hi(), Piece{Seg: scan(), Data: "b"})
	long := strings.Repeat("\xff", api.MaxTag)
	joins(t, "\xff\xd8\xff\xe0\xff\xff"+long+"\xff\xd9", Piece{Seg: seg.Plain{At: 0xe0, Body: long}})
}

func TestJoinOfAnyPlaces(t *testing.T) {
	for _, at := range []int{math.MinInt, -1, 0, 1, 2, 3, 12, api.MaxFile, api.MaxFile + 1, math.MaxInt} {
		joins(t, "\xff\xd8"+note+scanned+"a\xff\xd9", Piece{At: at, Seg: hi().Seg}, Piece{At: -at, Seg: scan(), Data: "a"})
	}
}

func TestJoinDropsFills(t *testing.T) {
	l, _, _ := Split("\xff\xd8\xff\xff\xff" + note + "\xff\xff" + scanned + "a\xff\xff\xd2\xff\xff\xff\xd9")
	if s, e := Join(l); s != "\xff\xd8"+note+scanned+"a\xff\xff\xd2\xff\xd9" || e != api.OK {
		t.Errorf("Join = %x, %d", s, e)
	}
}

func TestJoinOfBare(t *testing.T) {
	for n := -10; n < 300; n++ {
		bare := Piece{Seg: seg.Bare{At: n}}
		unjoined(t, bare)
		unjoined(t, hi(), bare)
		unjoined(t, bare, hi())
		// Behind a scan a restart would be its data.
		unjoined(t, Piece{Seg: scan(), Data: "a"}, bare)
		unjoined(t, Piece{Seg: scan(), Data: "a"}, bare, hi())
		unjoined(t, Piece{Seg: scan()}, Piece{Seg: seg.Bare{At: n}, Data: "a"})
	}
}

func TestJoinOfStrangers(t *testing.T) {
	for _, s := range strangers() {
		unjoined(t, Piece{Seg: s})
		unjoined(t, Piece{Seg: s, Data: "a"})
		unjoined(t, hi(), Piece{Seg: s})
		unjoined(t, Piece{Seg: s}, hi())
		unjoined(t, Piece{Seg: scan(), Data: "a"}, Piece{Seg: s}, hi())
	}
}

func TestJoinOfDataBehindOthers(t *testing.T) {
	l, _, _ := Split(rich())
	for _, p := range l {
		if _, ok := p.Seg.(seg.Scan); ok {
			continue
		}
		for _, data := range []string{"a", "\x00", "\xff", "\xff\x00", "\xff\xd0", "\xff\xd9", "\xff\xff", note, scanned, scanned + "a"} {
			unjoined(t, Piece{Seg: p.Seg, Data: data})
			unjoined(t, Piece{Seg: p.Seg, Data: data}, hi())
			unjoined(t, hi(), Piece{Seg: p.Seg, Data: data})
		}
	}
}

// goodData tells by the model whether a text is a scan's data, whatever marker follows.
func goodData(s string) bool {
	l, _, e := modelSplit("\xff\xd8" + scanned + s + note + "\xff\xd9")
	return e == api.OK && len(l) == 2 && l[0].Data == s
}

func TestJoinOfAllShortData(t *testing.T) {
	right := 0
	for _, s := range texts("\x00\x02\xff\xd0\xd7\xd8\xd9\xfe", 4) {
		p := Piece{Seg: scan(), Data: s}
		if !goodData(s) {
			unjoined(t, p)
			unjoined(t, p, hi())
			unjoined(t, hi(), p, p)
			continue
		}
		right++
		joins(t, "\xff\xd8"+scanned+s+"\xff\xd9", p)
		joins(t, "\xff\xd8"+note+scanned+s+scanned+s+note+"\xff\xd9", hi(), p, p, hi())
	}
	if right < 1000 {
		t.Errorf("only %d of them were right", right)
	}
}

func TestJoinOfWrongData(t *testing.T) {
	for n := range 256 {
		p := Piece{Seg: scan(), Data: "a" + joined(0xff, n)}
		if n == 0 || n >= 0xd0 && n <= 0xd7 {
			joins(t, "\xff\xd8"+scanned+p.Data+"\xff\xd9", p)
			continue
		}
		unjoined(t, p)
		unjoined(t, p, hi())
		p.Data += "b"
		unjoined(t, p)
	}
	// Whole pieces within data would be pieces of their own.
	for _, data := range []string{"a" + note, note, scanned, "a" + scanned + "b", framed, "\xff\xd9", "\xff\xd9\xff\xd8", "\xff", "a\xff", "\xff\x00\xff", "\xff\xff"} {
		unjoined(t, Piece{Seg: scan(), Data: data})
		unjoined(t, Piece{Seg: scan(), Data: data}, hi())
	}
}

func TestJoinOfAsMuchAsFits(t *testing.T) {
	for _, x := range []string{"a", "\xff\xd0", "\xff\x00"} {
		data := strings.Repeat(x, (api.MaxFile-14)/len(x))
		joins(t, "\xff\xd8"+scanned+data+"\xff\xd9", Piece{Seg: scan(), Data: data})
		unjoined(t, Piece{Seg: scan(), Data: "a" + data})
		unjoined(t, Piece{Seg: scan(), Data: data}, hi())
		unjoined(t, hi(), Piece{Seg: scan(), Data: data})
	}
	body := strings.Repeat("\xff", 1020)
	some := seg.Plain{At: 0xe0, Body: body}
	last := seg.Plain{At: 0xe0, Body: body[:1016]}
	l := append(slices.Repeat([]Piece{{Seg: some}}, 1<<14-1), Piece{Seg: last})
	joins(t, "\xff\xd8"+strings.Repeat("\xff\xe0\x03\xfe"+body, 1<<14-1)+"\xff\xe0\x03\xfa"+last.Body+"\xff\xd9", l...)
	last.Body = body[:1017]
	l[1<<14-1].Seg = last
	unjoined(t, l...)
}

func TestJoinOfFarTooMuch(t *testing.T) {
	// All of it would have 2^40 bytes.
	data := strings.Repeat("a", 1<<22)
	if s, e := Join(slices.Repeat([]Piece{{Seg: scan(), Data: data}}, 1<<18)); s != "" || e != api.ErrArg {
		t.Errorf("Join = %.200x, %d", s, e)
	}
	if s, e := Join(slices.Repeat([]Piece{{Seg: seg.Plain{At: 0xe0, Body: data[:api.MaxTag]}}}, 1<<18)); s != "" || e != api.ErrArg {
		t.Errorf("Join = %.200x, %d", s, e)
	}
}

func TestJoinChangesNoLists(t *testing.T) {
	picks := append(make([]seg.Pick, 0, 9), seg.Pick{Id: 1})
	parts := append(make([]seg.Part, 0, 9), seg.Part{Id: 1, H: 1, V: 1})
	l := []Piece{{At: 5, Seg: seg.Frame{At: 0xc0, H: 9, W: 17, Comps: parts}}, {At: 6, Seg: seg.Scan{Comps: picks, To: 63}, Data: "a"}, {At: 7}}
	if s, e := Join(l[:2]); s != "\xff\xd8"+framed+scanned+"a\xff\xd9" || e != api.OK {
		t.Errorf("Join = %x, %d", s, e)
	}
	if !slices.Equal(picks[:9], append([]seg.Pick{{Id: 1}}, make([]seg.Pick, 8)...)) || !slices.Equal(parts[:9], append([]seg.Part{{Id: 1, H: 1, V: 1}}, make([]seg.Part, 8)...)) {
		t.Errorf("what was handed in became %v, %v", picks[:9], parts[:9])
	}
	if l[0].At != 5 || l[1].At != 6 || l[2] != (Piece{At: 7}) {
		t.Errorf("what was handed in became %v", l)
	}
}

// Promise 8.3: metadata.

func TestTags(t *testing.T) {
	l, _, _ := Split(rich())
	for _, x := range []struct {
		l    []Piece
		want []api.Tag
	}{
		{nil, nil}, {[]Piece{}, nil},
		{[]Piece{hi()}, []api.Tag{{Kind: 0xfe, Body: "hi"}}},
		{[]Piece{{Seg: scan(), Data: note}, {Seg: frame()}, {Seg: seg.Bare{At: 0xd8}}, {Seg: seg.Restart{N: 0xfe}}}, nil},
		{[]Piece{hi(), {Seg: scan()}, {At: 99, Seg: seg.Plain{At: 0xe0, Body: "\xff\x00"}, Data: "a"}, {}, hi()},
			[]api.Tag{{Kind: 0xfe, Body: "hi"}, {Kind: 0xe0, Body: "\xff\x00"}, {Kind: 0xfe, Body: "hi"}}},
		{l, []api.Tag{{Kind: 0xe0, Body: "JFIF\x00"}, {Kind: 0xfe, Body: "hi"}, {Kind: 0xe1}, {Kind: 0xfe, Body: "hi"}}},
	} {
		if got := Tags(x.l); !slices.Equal(got, x.want) {
			t.Errorf("Tags of %v = %v, want %v", x.l, got, x.want)
		}
	}
}

func TestTagsOfEachCode(t *testing.T) {
	var l []Piece
	var want []api.Tag
	for n := 0xe0; n <= 0xef; n++ {
		l = append(l, Piece{Seg: seg.Plain{At: n, Body: joined(n)}}, Piece{Seg: scan()})
		want = append(want, api.Tag{Kind: n, Body: joined(n)})
	}
	l = append(l, hi())
	want = append(want, api.Tag{Kind: 0xfe, Body: "hi"})
	if got := Tags(l); !slices.Equal(got, want) {
		t.Errorf("Tags = %v", got)
	}
	slices.Reverse(l)
	slices.Reverse(want)
	if got := Tags(l); !slices.Equal(got, want) {
		t.Errorf("Tags = %v", got)
	}
}

func TestTagsOfStrangers(t *testing.T) {
	for _, s := range strangers() {
		if _, ok := s.(seg.Plain); ok {
			continue
		}
		if got := Tags([]Piece{{Seg: s}, hi(), {Seg: s, Data: "a"}}); !slices.Equal(got, []api.Tag{{Kind: 0xfe, Body: "hi"}}) {
			t.Errorf("Tags of a %T %v = %v", s, s, got)
		}
	}
}

func TestTagsAreNew(t *testing.T) {
	l := []Piece{hi(), hi()}
	a, b := Tags(l), Tags(l)
	for i := range a[:cap(a)] {
		a[:cap(a)][i] = api.Tag{Kind: 1}
	}
	if want := (api.Tag{Kind: 0xfe, Body: "hi"}); b[0] != want || b[1] != want || !reflect.DeepEqual(l, []Piece{hi(), hi()}) {
		t.Errorf("one answer is another's, or what was handed in: %v, %v", b, l)
	}
}

// Promise 8.4: what was split is joined, and what is joined split.

func TestThereAndBackOfARichFile(t *testing.T) {
	thereAndBack(t, rich())
	file := rich()
	for i := range len(file) {
		for n := range 256 {
			changed := file[:i] + joined(n) + file[i+1:]
			if _, _, e := Split(changed); e == api.OK {
				thereAndBack(t, changed)
			}
		}
	}
}

func TestThereAndBackOfMixedFiles(t *testing.T) {
	mix := rand.New(rand.NewPCG(8, 4))
	back := 0
	for range 50000 {
		file := mixed(mix)
		if _, _, e := Split(file); e == api.OK {
			thereAndBack(t, file)
			back++
		}
	}
	if back < 1000 {
		t.Errorf("only %d of them were right", back)
	}
}

func TestJoinOfMixedPieces(t *testing.T) {
	mix := rand.New(rand.NewPCG(8, 2))
	l, _, _ := Split(rich())
	all := []string{"", "a", "\xff\x00", "\xff\xd5", "\xff\xff\x00", "\xff", note, "\xff\xd9", "\x00"}
	joinedOnes, refusedOnes := 0, 0
	for range 20000 {
		var row []Piece
		right, want := true, "\xff\xd8"
		for range mix.IntN(5) {
			p := Piece{At: mix.IntN(99), Seg: l[mix.IntN(len(l))].Seg}
			_, scans := p.Seg.(seg.Scan)
			if scans || mix.IntN(9) == 0 {
				p.Data = all[mix.IntN(len(all))]
			}
			right = right && (scans && goodData(p.Data) || p.Data == "")
			s, _ := seg.Bytes(p.Seg)
			want += s + p.Data
			row = append(row, p)
		}
		if right {
			joins(t, want+"\xff\xd9", row...)
			joinedOnes++
		} else {
			unjoined(t, row...)
			refusedOnes++
		}
	}
	if joinedOnes < 1000 || refusedOnes < 1000 {
		t.Errorf("%d were joined, %d refused", joinedOnes, refusedOnes)
	}
}
