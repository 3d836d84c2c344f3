package mark

import (
	"math/rand/v2"
	"reflect"
	"regexp"
	"slices"
	"strings"
	"testing"

	"aquatint/api"
	"aquatint/seg"
)

// Parts of files.
const (
	scanned = "\xff\xda\x00\x08\x01\x01\x00\x00\x3f\x00"
	framed  = "\xff\xc0\x00\x0b\x08\x00\x09\x00\x11\x01\x01\x11\x00"
	note    = "\xff\xfe\x00\x04hi"
)

// scan is the segment that scanned is.
func scan() seg.Scan { return seg.Scan{Comps: []seg.Pick{{Id: 1}}, To: 63} }

// frame is the segment that framed is.
func frame() seg.Frame {
	return seg.Frame{At: 0xc0, H: 9, W: 17, Comps: []seg.Part{{Id: 1, H: 1, V: 1}}}
}

// rich is a file with a piece of each kind, ffs that fill, and data with all that may stand in it.
func rich() string {
	quants := "\xff\xdb\x00\x43\x00" + strings.Repeat("\x07", 64)
	huffs := "\xff\xff\xc4\x00\x15\x01\x00\x02" + strings.Repeat("\x00", 14) + "\x03\xff"
	return "\xff\xd8" + "\xff\xe0\x00\x07JFIF\x00" + note + quants + huffs + "\xff\xdd\x00\x04\x00\x01" +
		framed + scanned + "ab\xff\x00c\xff\xd0\xff\xff\xd7\x00\xff\xff\x00d" + "\xff\xff\xff\xe1\x00\x02" + scanned + note + scanned + "\x00\xff\xd9"
}

// joined is the bytes of numbers.
func joined(l ...int) string {
	var b strings.Builder
	for _, n := range l {
		b.WriteByte(byte(n))
	}
	return b.String()
}

// same tells whether two lists of pieces are alike, places included.
func same(a, b []Piece) bool { return len(a) == 0 && len(b) == 0 || reflect.DeepEqual(a, b) }

// splits fails the test, if a file isn't split into these pieces.
func splits(t *testing.T, file string, want ...Piece) {
	t.Helper()
	if l, at, e := Split(file); !same(l, want) || at != 0 || e != api.OK {
		t.Fatalf("Split of %.200x = %v, %d, %d, want %v", file, l, at, e, want)
	}
}

// refuses fails the test, if a file is split, or another error or place told.
func refuses(t *testing.T, file string, at int, want api.Errno) {
	t.Helper()
	if l, p, e := Split(file); len(l) != 0 || p != at || e != want {
		t.Fatalf("Split of %.200x = %v, %d, %d, want %d, %d", file, l, p, e, at, want)
	}
}

// The model: a file is spelt as runes, one a byte, and cut by patterns.
var (
	endPattern   = regexp.MustCompile(`^\x{ff}+\x{d9}`)
	piecePattern = regexp.MustCompile(`^\x{ff}+[\x01-\x{cf}\x{da}-\x{fe}]`)
	shortPattern = regexp.MustCompile(`^\x{ff}*$`)
	dataPattern  = regexp.MustCompile(`^([^\x{ff}]|\x{ff}+[\x00\x{d0}-\x{d7}])*(\x{ff}+$)?`)
)

// spelt is a text's bytes as runes.
func spelt(s string) string {
	l := make([]rune, len(s))
	for i := range len(s) {
		l[i] = rune(s[i])
	}
	return string(l)
}

// runes is how many bytes a part of what was spelt stands for.
func runes(s string) int { return len([]rune(s)) }

// modelSplit is Split, told by patterns.
func modelSplit(file string) ([]Piece, int, api.Errno) {
	if len(file) > 1<<24 {
		return nil, 0, api.ErrLarge
	}
	if len(file) < 2 || file[:2] != "\xff\xd8" {
		return nil, 0, api.ErrMark
	}
	var l []Piece
	for at := 2; ; {
		left := spelt(file[at:])
		if shortPattern.MatchString(left) {
			return nil, len(file), api.ErrShort
		}
		if n := runes(endPattern.FindString(left)); n == len(file)-at {
			return l, 0, api.OK
		} else if n > 0 {
			return nil, at + n, api.ErrLen
		}
		n := runes(piecePattern.FindString(left))
		if n == 0 {
			return nil, at, api.ErrMark
		}
		behind := at + n
		if len(file) < behind+2 {
			return nil, len(file), api.ErrShort
		}
		size := int(file[behind])<<8 + int(file[behind+1])
		if size < 2 {
			return nil, behind, api.ErrLen
		}
		if len(file) < behind+size {
			return nil, len(file), api.ErrShort
		}
		s, e := seg.Parse(int(file[behind-1]), file[behind+2:behind+size])
		if e != api.OK {
			return nil, at, e
		}
		p := Piece{At: at, Seg: s}
		at = behind + size
		if file[behind-1] == 0xda {
			p.Data = file[at : at+runes(dataPattern.FindString(spelt(file[at:])))]
			at += len(p.Data)
		}
		l = append(l, p)
	}
}

// asModel fails the test, if a file isn't split as the model splits it. It answers the error.
func asModel(t *testing.T, file string) api.Errno {
	t.Helper()
	l, at, e := Split(file)
	want, wantAt, wantE := modelSplit(file)
	if !same(l, want) || at != wantAt || e != wantE {
		t.Fatalf("Split of %x = %v, %d, %d, want %v, %d, %d", file, l, at, e, want, wantAt, wantE)
	}
	return e
}

// texts are all those of at most so many of the bytes.
func texts(bytes string, most int) []string {
	all, last := []string{""}, []string{""}
	for range most {
		var next []string
		for _, s := range last {
			for i := range len(bytes) {
				next = append(next, s+bytes[i:i+1])
			}
		}
		all, last = append(all, next...), next
	}
	return all
}

// Promise 8.1: files split.

func TestSplitOfAFewPieces(t *testing.T) {
	splits(t, "\xff\xd8\xff\xd9")
	splits(t, "\xff\xd8\xff\xff\xff\xd9")
	splits(t, "\xff\xd8"+note+"\xff\xd9", Piece{At: 2, Seg: seg.Plain{At: 0xfe, Body: "hi"}})
	splits(t, "\xff\xd8\xff\xff"+note+"\xff\xff\xef\x00\x02\xff\xff\xff\xd9",
		Piece{At: 2, Seg: seg.Plain{At: 0xfe, Body: "hi"}}, Piece{At: 10, Seg: seg.Plain{At: 0xef}})
	// What stands in a body is no marker.
	splits(t, "\xff\xd8\xff\xe3\x00\x06\xff\xd9\xff\xd8\xff\xd9", Piece{At: 2, Seg: seg.Plain{At: 0xe3, Body: "\xff\xd9\xff\xd8"}})
	splits(t, "\xff\xd8"+framed+scanned+"\x12\xff\xd9", Piece{At: 2, Seg: frame()}, Piece{At: 15, Seg: scan(), Data: "\x12"})
	splits(t, "\xff\xd8"+scanned+framed+"\xff\xd9", Piece{At: 2, Seg: scan()}, Piece{At: 12, Seg: frame()})
	splits(t, "\xff\xd8\xff\xdd\x00\x04\x01\x02\xff\xd9", Piece{At: 2, Seg: seg.Restart{N: 258}})
}

func TestSplitOfARichFile(t *testing.T) {
	l, at, e := Split(rich())
	codes := []int{0xe0, 0xfe, 0xdb, 0xc4, 0xdd, 0xc0, 0xda, 0xe1, 0xda, 0xfe, 0xda}
	places := []int{2, 11, 17, 86, 110, 116, 129, 154, 160, 170, 176}
	data := map[int]string{6: "ab\xff\x00c\xff\xd0\xff\xff\xd7\x00\xff\xff\x00d", 10: "\x00"}
	if len(l) != len(codes) || at != 0 || e != api.OK {
		t.Fatalf("Split = %v, %d, %d", l, at, e)
	}
	for i, p := range l {
		if p.Seg.Code() != codes[i] || p.At != places[i] || p.Data != data[i] {
			t.Errorf("the piece %d is %v", i, p)
		}
	}
}

func TestSplitOfOtherBeginnings(t *testing.T) {
	for _, s := range []string{"", "\xff", "\xd8", "\xff\xd9", "\xff\xff\xd8\xff\xd9", "\x00\xff\xd8\xff\xd9", "\xd8\xff\xff\xd9", "\xc3\xbf\xc3\x98", "ab", note} {
		refuses(t, s, 0, api.ErrMark)
	}
	for a := range 256 {
		for b := range 256 {
			if a != 0xff || b != 0xd8 {
				refuses(t, joined(a, b), 0, api.ErrMark)
				refuses(t, joined(a, b)+note+"\xff\xd9", 0, api.ErrMark)
			}
		}
	}
}

func TestSplitOfEachCode(t *testing.T) {
	for _, ahead := range []string{"\xff\xd8", "\xff\xd8" + note, "\xff\xd8" + scanned + "ab", rich()[:len(rich())-2]} {
		for fills := range 4 {
			for code := range 255 {
				eachCode(t, ahead, strings.Repeat("\xff", 1+fills), code)
			}
		}
	}
}

// eachCode asks a marker behind what is ahead, with these ffs.
func eachCode(t *testing.T, ahead, ffs string, code int) {
	at, full := len(ahead), ahead+ffs+joined(code)
	scans := ahead != "\xff\xd8" && ahead != "\xff\xd8"+note
	switch {
	case scans && (code == 0 || code >= 0xd0 && code <= 0xd7):
		// It is data.
		refuses(t, full, len(full), api.ErrShort)
		if l, _, e := Split(full + "\xff\xd9"); e != api.OK || !strings.HasSuffix(l[len(l)-1].Data, ffs+joined(code)) {
			t.Fatalf("Split of %x = %v, %d", full+"\xff\xd9", l, e)
		}
	case code == 0 || code >= 0xd0 && code <= 0xd8:
		for _, rest := range []string{"", "\x00", "\x00\x02", "\x00\x02\xff\xd9", "\xff\xd9"} {
			refuses(t, full+rest, at, api.ErrMark)
		}
	case code == 0xd9:
		if l, p, e := Split(full); p != 0 || e != api.OK {
			t.Fatalf("Split of %x = %v, %d, %d", full, l, p, e)
		}
		for _, rest := range []string{"\x00", "\xff", "\xff\xd9", "\x00\x02", note, "a", strings.Repeat("\xff", 99)} {
			refuses(t, full+rest, len(full), api.ErrLen)
		}
	default:
		lengths(t, full, at, code)
	}
}

// lengths asks all lengths of a body, and all that may be wrong with them.
func lengths(t *testing.T, full string, at, code int) {
	refuses(t, full, len(full), api.ErrShort)
	for n := range 256 {
		refuses(t, full+joined(n), len(full)+1, api.ErrShort)
	}
	for _, rest := range []string{"", "\xff\xd9", "\x00\x02\xff\xd9"} {
		refuses(t, full+"\x00\x00"+rest, len(full), api.ErrLen)
		refuses(t, full+"\x00\x01"+rest, len(full), api.ErrLen)
	}
	refuses(t, full+"\x00\x03", len(full)+2, api.ErrShort)
	refuses(t, full+"\x00\x05ab", len(full)+4, api.ErrShort)
	refuses(t, full+"\xff\xffab", len(full)+4, api.ErrShort)
	for _, body := range []string{"", "\x01", "\x00\x08", "\x20", framed[4:], scanned[4:]} {
		_, e := seg.Parse(code, body)
		file := full + joined(0, len(body)+2) + body
		if e != api.OK {
			refuses(t, file, at, e)
			refuses(t, file+"\xff\xd9", at, e)
			continue
		}
		refuses(t, file, len(file), api.ErrShort)
		if l, p, e := Split(file + "\xff\xd9"); p != 0 || e != api.OK || l[len(l)-1].At != at || l[len(l)-1].Seg.Code() != code {
			t.Fatalf("Split of %x = %v, %d, %d", file, l, p, e)
		}
	}
}

func TestSplitOfNoMarker(t *testing.T) {
	for _, ahead := range []string{"\xff\xd8", "\xff\xd8" + note, "\xff\xd8" + scanned + "a" + note} {
		for n := range 255 {
			refuses(t, ahead+joined(n), len(ahead), api.ErrMark)
			refuses(t, ahead+joined(n)+note+"\xff\xd9", len(ahead), api.ErrMark)
		}
		for fills := range 5 {
			refuses(t, ahead+strings.Repeat("\xff", fills), len(ahead)+fills, api.ErrShort)
		}
	}
}

func TestSplitOfLayer7sErrors(t *testing.T) {
	for _, x := range []struct {
		s string
		e api.Errno
	}{
		{"\xff\x01\x00\x02", api.ErrMark}, {"\xff\xbf\x00\x02", api.ErrMark}, {"\xff\xc3\x00\x02", api.ErrKind}, {"\xff\xdc\x00\x04\x00\x01", api.ErrKind}, {"\xff\xfd\x00\x02", api.ErrKind},
		{"\xff\xdd\x00\x03\x00", api.ErrLen}, {"\xff\xdd\x00\x05\x00\x00\x00", api.ErrLen}, {"\xff\xc4\x00\x02", api.ErrLen}, {"\xff\xdb\x00\x03\x04", api.ErrTable},
		{"\xff\xc2\x00\x03\x0c", api.ErrKind}, {"\xff\xc0\x00\x07\x08\x00\x00\x00\x01", api.ErrFrame}, {"\xff\xc0\x00\x07\x08\x40\x01\x00\x01", api.ErrLarge},
		{"\xff\xc1\x00\x08\x08\x00\x01\x00\x01\x05", api.ErrMany}, {"\xff\xda\x00\x03\x00", api.ErrScan}, {"\xff\xda\x00\x02", api.ErrLen},
	} {
		for _, rest := range []string{"", "\xff\xd9", "\x00", "\xff\xd9\x00", note} {
			refuses(t, "\xff\xd8"+x.s+rest, 2, x.e)
			refuses(t, "\xff\xd8\xff\xff"+x.s+rest, 2, x.e)
			refuses(t, "\xff\xd8"+note+"\xff"+x.s+rest, 8, x.e)
			refuses(t, "\xff\xd8"+scanned+"a\xff\xff\x00\xff"+x.s+rest, 16, x.e)
		}
	}
}

func TestSplitOfData(t *testing.T) {
	for _, data := range []string{"", "a", "\x00", "\xd9", "\xff\x00", "\xff\xff\x00", "\xff\xff\xff\xff\x00\x00", "\xff\xd0", "\xff\xd7", "\xff\xff\xff\xd3", "\xff\x00\xd9",
		"\xff\xd0\xff\xd1\xff\xd1", "\xff\xd7\xff\x00\xff\xd0", "\xfe\x00\x04hi", strings.Repeat("\xff\x00a", 1000), strings.Repeat("\xff", 1000) + "\x00", strings.Repeat("\xff", 1000) + "\xd5"} {
		for fills := range 4 {
			more := strings.Repeat("\xff", fills)
			end := 12 + len(data)
			splits(t, "\xff\xd8"+scanned+data+more+"\xff\xd9", Piece{At: 2, Seg: scan(), Data: data})
			splits(t, "\xff\xd8"+scanned+data+more+note+"\xff\xd9", Piece{At: 2, Seg: scan(), Data: data}, Piece{At: end, Seg: seg.Plain{At: 0xfe, Body: "hi"}})
			refuses(t, "\xff\xd8"+scanned+data+more, end+fills, api.ErrShort)
			refuses(t, "\xff\xd8"+scanned+data+more+"\xff\xd8", end, api.ErrMark)
			refuses(t, "\xff\xd8"+scanned+data+more+"\xff\x01\x00\x02", end, api.ErrMark)
			refuses(t, "\xff\xd8"+scanned+data+more+"\xff\xcf\x00\x02", end, api.ErrKind)
			refuses(t, "\xff\xd8"+scanned+data+more+"\xff\xfe\x00\x01", end+fills+2, api.ErrLen)
		}
	}
	// Behind other segments there is none.
	for _, data := range []string{"a", "\x00", "\xff\x00", "\xff\xd0", "\xff\xff\x00"} {
		refuses(t, "\xff\xd8"+framed+data+"\xff\xd9", 15, api.ErrMark)
		refuses(t, "\xff\xd8"+note+data+"\xff\xd9", 8, api.ErrMark)
	}
}

func TestSplitOfAllShortFiles(t *testing.T) {
	right := 0
	for _, s := range texts("\x00\x02\xff\xc3\xd4\xd9\xda\xfe", 5) {
		if asModel(t, "\xff\xd8"+s) == api.OK {
			right++
		}
		asModel(t, s)
	}
	if right < 3 {
		t.Errorf("only %d of them were right", right)
	}
}

func TestSplitOfAllShortData(t *testing.T) {
	right := 0
	for _, s := range texts("\x00\x02\xff\xd0\xd7\xd8\xd9\xfe", 5) {
		if asModel(t, "\xff\xd8"+scanned+s) == api.OK {
			right++
		}
		asModel(t, "\xff\xd8"+scanned+s+"\xff\xd9")
		asModel(t, "\xff\xd8"+framed+s+"\xff\xd9")
	}
	if right < 100 {
		t.Errorf("only %d of them were right", right)
	}
}

func TestSplitOfEachBeginning(t *testing.T) {
	file := rich()
	for n := range len(file) {
		want, at := api.ErrShort, n
		if n < 2 {
			want, at = api.ErrMark, 0
		}
		refuses(t, file[:n], at, want)
	}
	for n := 1; n < 20; n++ {
		refuses(t, file+strings.Repeat("\xff", n), len(file), api.ErrLen)
	}
	refuses(t, file+file, len(file), api.ErrLen)
}

func TestSplitOfEachByteChanged(t *testing.T) {
	file := rich()
	for i := range len(file) {
		for n := range 256 {
			asModel(t, file[:i]+joined(n)+file[i+1:])
		}
		asModel(t, file[:i]+file[i+1:])
		asModel(t, file[:i]+"\xff"+file[i:])
		asModel(t, file[:i]+"\x00"+file[i:])
	}
}

func TestSplitOfLargeFiles(t *testing.T) {
	long := "\xff\xe1\xff\xff" + strings.Repeat("\xff", api.MaxTag)
	files := []string{
		"\xff\xd8" + scanned + strings.Repeat("a", api.MaxFile-14) + "\xff\xd9",
		"\xff\xd8" + strings.Repeat("\xff", api.MaxFile-3) + "\xd9",
		"\xff\xd8" + scanned + strings.Repeat("\xff", api.MaxFile-15) + "\x00\xff\xd9",
		"\xff\xd8" + scanned + strings.Repeat("\xff\xd0", (api.MaxFile-14)/2) + "\xff\xd9",
		"\xff\xd8" + scanned + strings.Repeat("\xff\x00", (api.MaxFile-14)/2) + "\xff\xd9",
		"\xff\xd8" + strings.Repeat(long, 255) + strings.Repeat("\xff", api.MaxFile-4-255*(api.MaxTag+4)) + "\xff\xd9",
	}
	many := []int{1, 0, 1, 1, 1, 255}
	for i, file := range files {
		if len(file) != api.MaxFile {
			t.Fatalf("the file %d has %d bytes", i, len(file))
		}
		if l, at, e := Split(file); len(l) != many[i] || at != 0 || e != api.OK {
			t.Errorf("of the file %d: %d pieces, %d, %d", i, len(l), at, e)
		}
		refuses(t, file+"a", 0, api.ErrLarge)
		refuses(t, file+file, 0, api.ErrLarge)
		refuses(t, file[1:]+"a", 0, api.ErrMark)
		refuses(t, file[:len(file)-1], api.MaxFile-1, api.ErrShort)
		refuses(t, file[:len(file)-1]+"\xff", api.MaxFile, api.ErrShort)
	}
	// How large it is comes first.
	refuses(t, strings.Repeat("a", api.MaxFile+1), 0, api.ErrLarge)
	refuses(t, strings.Repeat("a", api.MaxFile), 0, api.ErrMark)
}

func TestSplitAnswersNewLists(t *testing.T) {
	a, _, _ := Split(rich())
	b, _, _ := Split(rich())
	was := slices.Clone(b)
	a[5].Seg.(seg.Frame).Comps[0].Id = 77
	a[6].Seg.(seg.Scan).Comps[0].Id = 77
	a[2].Seg.(seg.Quants).L[0].At = 77
	a[3].Seg.(seg.Huffs).L[0].At = 77
	if b[5].Seg.(seg.Frame).Comps[0].Id != 1 || b[6].Seg.(seg.Scan).Comps[0].Id != 1 || b[8].Seg.(seg.Scan).Comps[0].Id != 1 ||
		b[2].Seg.(seg.Quants).L[0].At != 0 || b[3].Seg.(seg.Huffs).L[0].At != 1 || a[8].Seg.(seg.Scan).Comps[0].Id != 1 {
		t.Errorf("one answer's lists are another's: %v", b)
	}
	for i := range a[:cap(a)] {
		a[:cap(a)][i] = Piece{At: -1}
	}
	if !reflect.DeepEqual(b, was) {
		t.Errorf("one answer's pieces are another's: %v", b)
	}
}

// mixed is a file of parts that are right more often than not.
func mixed(mix *rand.Rand) string {
	parts := []string{note, scanned, framed, "\xff", "\xff\xff", "\xff\x00", "\xff\xd1", "a", "\x00", "\xff\xe0\x00\x02", "\xff\xdd\x00\x04\x00\x09", scanned + "x", scanned + "\xff\xd7\xff\x00"}
	file := "\xff\xd8"
	for range mix.IntN(6) {
		file += parts[mix.IntN(len(parts))]
	}
	if mix.IntN(8) > 0 {
		file += "\xff\xd9"
	}
	return file
}

func TestSplitOfMixedFiles(t *testing.T) {
	mix := rand.New(rand.NewPCG(8, 1))
	seen := map[api.Errno]int{}
	for range 50000 {
		seen[asModel(t, mixed(mix))]++
	}
	for _, e := range []api.Errno{api.OK, api.ErrShort, api.ErrMark} {
		if seen[e] < 1000 {
			t.Errorf("the error %d came %d times", e, seen[e])
		}
	}
}

func FuzzSplit(f *testing.F) {
	f.Add(rich())
	f.Add("\xff\xd8" + scanned + "\xff\x00\xff\xff\xd9")
	f.Fuzz(func(t *testing.T, file string) {
		if asModel(t, file) == api.OK {
			thereAndBack(t, file)
		}
	})
}
