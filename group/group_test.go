package group

import (
	"encoding/binary"
	"hash/crc32"
	"math"
	"reflect"
	"slices"
	"strings"
	"testing"

	"cachepot/api"
	"cachepot/batch"
)

const maxSeq = math.MaxInt32

// tiny is the smallest device: a page has room for 17 bytes, and a batch may take 2 pages.
var (
	tiny  = api.Geom{Page: 32, Pages: 3, Regions: 4}
	small = api.Geom{Page: 32, Pages: 4, Regions: 5}
	great = api.Geom{Page: 128, Pages: 10, Regions: 12}
)

func put(key, val string) api.Write { return api.Write{Key: key, Val: val} }

func del(key string) api.Write { return api.Write{Key: key, Del: true} }

func row(l ...api.Write) []api.Write { return l }

func of(seq, prev, from uint32, writes []api.Write) api.Group {
	return api.Group{Seq: seq, Prev: prev, From: from, Writes: writes}
}

// nums is numbers of four bytes each, the lowest first, as the library lays them.
func nums(l ...uint32) string {
	var b []byte
	for _, n := range l {
		b = binary.LittleEndian.AppendUint32(b, n)
	}
	return string(b)
}

func sum(b string) uint32 { return crc32.ChecksumIEEE([]byte(b)) }

func part(seq, at uint32, text string) api.Frame {
	return api.Frame{Kind: 2, A: seq, B: at, Body: text}
}

func seal(seq, parts, prev, from, sum, size uint32) api.Frame {
	return api.Frame{Kind: 3, A: seq, B: parts, Body: nums(prev, from, sum, size)}
}

// over is the Seal 9 of Texts, that are right but for what stands in them.
func over(texts ...string) api.Frame {
	b := strings.Join(texts, "")
	return seal(9, uint32(len(texts)), 4, 3, sum(b), uint32(len(b)))
}

// made is the Parts 9 of texts, and their Seal.
func made(texts ...string) []api.Frame {
	var l []api.Frame
	for i, text := range texts {
		l = append(l, part(9, uint32(i), text))
	}
	return append(l, over(texts...))
}

// bytesOf is the bytes of a batch that is right.
func bytesOf(t *testing.T, l []api.Write) string {
	t.Helper()
	b, code := batch.Bytes(l)
	if code != api.OK {
		t.Fatalf("no batch: %+v: %d", l, code)
	}
	return b
}

// sized is a batch of just n bytes, 4 to 505: one byte tells how many, and each write takes 4 to 63.
func sized(t *testing.T, n int) []api.Write {
	t.Helper()
	var l []api.Write
	for left, writes := n-1, (n-1+62)/63; writes > 0; writes-- {
		take := left / writes
		left -= take
		name := string(rune('a' + len(l)))
		if take == 3 {
			l = append(l, del(name))
			continue
		}
		key := name + strings.Repeat("k", max(0, take-52))
		l = append(l, put(key, strings.Repeat("v", take-3-len(key))))
	}
	if b := bytesOf(t, l); len(b) != n {
		t.Fatalf("%d bytes, not %d", len(b), n)
	}
	return l
}

// fullest is the longest batch that there is.
func fullest() []api.Write {
	var l []api.Write
	for i := range 8 {
		l = append(l, put(strings.Repeat("\U0010fffe", 11)+string(rune(0x10fff0+i)), strings.Repeat("v", 48)))
	}
	return l
}

func equalGroups(a, b api.Group) bool {
	return a.Seq == b.Seq && a.Prev == b.Prev && a.From == b.From && slices.Equal(a.Writes, b.Writes)
}

func wantCut(t *testing.T, g api.Geom, x api.Group, want []api.Frame, wantCode api.Code) {
	t.Helper()
	kept := x
	kept.Writes = slices.Clone(x.Writes)
	for range 2 {
		got, code := Cut(g, x)
		if code != wantCode || !slices.Equal(got, want) {
			t.Errorf("Cut(%v, %+v): %+v %d, not %+v %d", g, x, got, code, want, wantCode)
		}
		if code != api.OK && got != nil {
			t.Errorf("Cut(%v, %+v): %+v beside %d", g, x, got, code)
		}
	}
	if !reflect.DeepEqual(x, kept) {
		t.Errorf("Cut has changed %+v to %+v", kept, x)
	}
}

func wantNoCut(t *testing.T, g api.Geom, x api.Group, code api.Code) {
	t.Helper()
	wantCut(t, g, x, nil, code)
}

func wantJoin(t *testing.T, l []api.Frame, want api.Group, wantCode api.Code) {
	t.Helper()
	kept := slices.Clone(l)
	for range 2 {
		got, code := Join(l)
		if code != wantCode || !equalGroups(got, want) {
			t.Errorf("Join(%+v): %+v %d, not %+v %d", l, got, code, want, wantCode)
		}
		if code != api.OK && !reflect.DeepEqual(got, api.Group{}) {
			t.Errorf("Join(%+v): %+v beside %d", l, got, code)
		}
	}
	if !slices.Equal(l, kept) {
		t.Errorf("Join has changed %+v to %+v", kept, l)
	}
}

func wantNoJoin(t *testing.T, l []api.Frame, code api.Code) {
	t.Helper()
	wantJoin(t, l, api.Group{}, code)
}

// wantBack asks that x cut is want, and that want joined is x.
func wantBack(t *testing.T, g api.Geom, x api.Group, want []api.Frame) {
	t.Helper()
	wantCut(t, g, x, want, api.OK)
	wantJoin(t, want, x, api.OK)
}

// cut is the frames of the group that has these writes, on the roomiest device of small pages.
func cut(t *testing.T, writes []api.Write) []api.Frame {
	t.Helper()
	l, code := Cut(api.Geom{Page: 32, Pages: 10, Regions: 12}, of(9, 4, 3, writes))
	if code != api.OK {
		t.Fatalf("Cut of %+v: %d", writes, code)
	}
	return l
}

func TestP1001OnePart(t *testing.T) {
	x := of(9, 4, 3, row(put("a", "b")))
	b := "\x01\x00\x01a\x01b"
	wantBack(t, small, x, []api.Frame{{Kind: 2, A: 9, Body: b}, {Kind: 3, A: 9, B: 1, Body: "\x04\x00\x00\x00\x03\x00\x00\x00" + nums(sum(b)) + "\x06\x00\x00\x00"}})
	b = "\x02\x01\x01a\x00\x02\xc3\xa9\x00"
	wantBack(t, tiny, of(1, 0, 1, row(del("a"), put("é", ""))), []api.Frame{part(1, 0, b), seal(1, 1, 0, 1, sum(b), 9)})
}

func TestP1001ManyParts(t *testing.T) {
	x := of(9, 4, 3, row(put("a", strings.Repeat("v", 30))))
	b := "\x01\x00\x01a\x1e" + strings.Repeat("v", 30)
	wantBack(t, small, x, []api.Frame{part(9, 0, b[:17]), part(9, 1, b[17:34]), part(9, 2, b[34:]), seal(9, 3, 4, 3, sum(b), 35)})
	x = of(300, 299, 300, fullest())
	b = bytesOf(t, x.Writes)
	var want []api.Frame
	for at := range 7 {
		want = append(want, part(300, uint32(at), b[113*at:113*(at+1)]))
	}
	want = append(want, part(300, 7, b[7*113:]), seal(300, 8, 299, 300, sum(b), 793))
	wantBack(t, great, x, want)
}

// TestP1001JustAPage: bytes of the room of one page, of one less and one more, and likewise of two.
func TestP1001JustAPage(t *testing.T) {
	for _, c := range []struct{ page, size, parts, last int }{
		{32, 4, 1, 4}, {32, 16, 1, 16}, {32, 17, 1, 17}, {32, 18, 2, 1}, {32, 33, 2, 16}, {32, 34, 2, 17}, {32, 35, 3, 1},
		{33, 17, 1, 17}, {33, 18, 1, 18}, {33, 19, 2, 1}, {128, 112, 1, 112}, {128, 113, 1, 113}, {128, 114, 2, 1}, {128, 226, 2, 113}, {128, 227, 3, 1},
	} {
		g := api.Geom{Page: c.page, Pages: 5, Regions: 4}
		x := of(9, 4, 3, sized(t, c.size))
		l, code := Cut(g, x)
		if code != api.OK || len(l) != c.parts+1 || len(l[c.parts-1].Body) != c.last {
			t.Errorf("%+v: %+v %d", c, l, code)
		}
		wantJoin(t, l, x, api.OK)
	}
}

// TestP1001JustAsManyPagesAsMayBe: bytes of just as many pages as a batch may take, and of one byte more.
func TestP1001JustAsManyPagesAsMayBe(t *testing.T) {
	for _, c := range []struct {
		g    api.Geom
		most int
	}{
		{tiny, 17}, {api.Geom{Page: 32, Pages: 4, Regions: 4}, 34}, {api.Geom{Page: 32, Pages: 3, Regions: 5}, 51}, {small, 85}, {api.Geom{Page: 128, Pages: 3, Regions: 4}, 113},
		{api.Geom{Page: 128, Pages: 4, Regions: 4}, 226}, {api.Geom{Page: 32, Pages: 10, Regions: 4}, 136}, {api.Geom{Page: 32, Pages: 3, Regions: 12}, 289}, {api.Geom{Page: 33, Pages: 9, Regions: 6}, 414},
	} {
		x := of(9, 4, 3, sized(t, c.most))
		l, code := Cut(c.g, x)
		if code != api.OK || len(l) != (c.g.Regions-3)*(c.g.Pages-1) {
			t.Errorf("%v: %+v %d", c.g, l, code)
		}
		wantJoin(t, l, x, api.OK)
		wantNoCut(t, c.g, of(9, 4, 3, sized(t, c.most+1)), api.ErrBig)
		wantNoCut(t, c.g, of(9, 4, 3, sized(t, c.most+2)), api.ErrBig)
	}
	wantNoCut(t, tiny, of(9, 4, 3, fullest()), api.ErrBig)
}

// numbers are the edges that a number of a group has, and their neighbours.
func numbers(of ...uint32) []uint32 {
	l := []uint32{0, 1, 2, 255, 256, 1 << 24, maxSeq - 1, maxSeq, maxSeq + 1, maxSeq + 2, math.MaxUint32 - 1, math.MaxUint32}
	for _, n := range of {
		l = append(l, n-1, n, n+1)
	}
	return l
}

func TestP1001NumbersOfAGroup(t *testing.T) {
	writes, b := row(put("a", "b")), "\x01\x00\x01a\x01b"
	for _, seq := range numbers(9) {
		for _, prev := range numbers(seq) {
			for _, from := range numbers(seq) {
				x := of(seq, prev, from, writes)
				if seq > maxSeq || prev >= seq || from < 1 || from > seq {
					wantNoCut(t, tiny, x, api.ErrForm)
					continue
				}
				wantBack(t, tiny, x, []api.Frame{part(seq, 0, b), seal(seq, 1, prev, from, sum(b), 6)})
			}
		}
	}
}

// TestP1001FewRightNumbers says the edges one by one.
func TestP1001FewRightNumbers(t *testing.T) {
	writes := row(put("a", "b"))
	for _, x := range []api.Group{of(1, 0, 1, writes), of(9, 0, 1, writes), of(9, 8, 9, writes), of(maxSeq, 0, 1, writes), of(maxSeq, maxSeq-1, maxSeq, writes)} {
		if l, code := Cut(tiny, x); code != api.OK || len(l) != 2 {
			t.Errorf("Cut(%+v): %+v %d", x, l, code)
		}
	}
	for _, x := range []api.Group{of(0, 0, 0, writes), of(0, 0, 1, writes), of(1, 1, 1, writes), of(1, 0, 0, writes), of(1, 0, 2, writes), of(9, 9, 9, writes), of(9, 10, 9, writes), of(9, 8, 0, writes), of(9, 8, 10, writes), of(maxSeq+1, 0, 1, writes), of(maxSeq+1, maxSeq, maxSeq, writes), of(math.MaxUint32, 0, 1, writes), of(9, math.MaxUint32, 9, writes), of(9, 8, math.MaxUint32, writes)} {
		wantNoCut(t, great, x, api.ErrForm)
	}
}

func TestP1001WrongWrites(t *testing.T) {
	long := strings.Repeat("v", 49)
	for _, c := range []struct {
		writes []api.Write
		code   api.Code
	}{
		{nil, api.ErrBatch}, {[]api.Write{}, api.ErrBatch}, {append(fullest(), put("\U0010ffff", "")), api.ErrBatch},
		{row(put("", "b")), api.ErrKey}, {row(put("a b", long)), api.ErrKey}, {row(put("a", ""), put(strings.Repeat("b", 13), "")), api.ErrKey}, {row(put("\xff", "")), api.ErrKey},
		{row(put("a", long)), api.ErrVal}, {row(api.Write{Key: "a", Del: true, Val: long}), api.ErrVal},
		{row(api.Write{Key: "a", Del: true, Val: "b"}), api.ErrForm}, {row(put("a", ""), put("a", "")), api.ErrForm}, {row(put("b", ""), put("a", "")), api.ErrForm},
		{row(put("b", ""), put("a", long)), api.ErrVal}, {row(put("b", ""), put("a", ""), put("", "")), api.ErrForm},
	} {
		for _, x := range []api.Group{of(9, 4, 3, c.writes), of(0, 0, 0, c.writes), of(math.MaxUint32, math.MaxUint32, 0, c.writes)} {
			wantNoCut(t, small, x, c.code)
			wantNoCut(t, tiny, x, c.code)
		}
	}
}

// wrongGeoms are devices that may not be, at each edge.
func wrongGeoms() []api.Geom {
	l := []api.Geom{{}, {Page: 31, Pages: 4, Regions: 5}, {Page: 129, Pages: 4, Regions: 5}, {Page: 32, Pages: 2, Regions: 5}, {Page: 32, Pages: 11, Regions: 5}, {Page: 32, Pages: 4, Regions: 3}, {Page: 32, Pages: 4, Regions: 13}}
	for _, n := range []int{0, -1, math.MinInt, math.MaxInt, 1<<32 + 32} {
		l = append(l, api.Geom{Page: n, Pages: 4, Regions: 5}, api.Geom{Page: 32, Pages: n, Regions: 5}, api.Geom{Page: 32, Pages: 4, Regions: n})
	}
	return l
}

// TestP1001TheFirstFaultCounts has groups with all that follows wrong too.
func TestP1001TheFirstFaultCounts(t *testing.T) {
	big := fullest()
	for _, g := range wrongGeoms() {
		wantNoCut(t, g, of(9, 4, 3, row(put("a", "b"))), api.ErrArg)
		wantNoCut(t, g, of(0, 0, 0, row(put("", ""))), api.ErrArg)
		wantNoCut(t, g, of(9, 4, 3, nil), api.ErrArg)
		wantNoCut(t, g, of(9, 4, 0, big), api.ErrArg)
		wantNoCut(t, g, of(9, 4, 3, big), api.ErrArg)
	}
	wrong := fullest()
	wrong[7].Key = ""
	wantNoCut(t, tiny, of(9, 9, 0, wrong), api.ErrKey)
	wantNoCut(t, tiny, of(9, 4, 3, wrong), api.ErrKey)
	wantNoCut(t, tiny, of(9, 9, 3, big), api.ErrForm)
	wantNoCut(t, tiny, of(9, 4, 0, big), api.ErrForm)
	wantNoCut(t, tiny, of(maxSeq+1, 4, 3, big), api.ErrForm)
	wantNoCut(t, tiny, of(9, 4, 3, big), api.ErrBig)
}

// TestP1001AnswersAreTheirOwn: what is done to an answer, or to what was handed in, is seen nowhere else.
func TestP1001AnswersAreTheirOwn(t *testing.T) {
	x := of(9, 4, 3, row(put("a", strings.Repeat("v", 30))))
	first, _ := Cut(small, x)
	second, _ := Cut(small, x)
	kept := slices.Clone(first)
	clear(second)
	_ = append(second[:1], api.Frame{}, api.Frame{})
	x.Writes[0] = put("b", "")
	if !slices.Equal(first, kept) {
		t.Errorf("%+v, not %+v", first, kept)
	}
	clear(first)
	x.Writes[0] = put("a", strings.Repeat("v", 30))
	wantCut(t, small, x, kept, api.OK)
}

func TestP1002Join(t *testing.T) {
	b := "\x01\x01\x01a"
	want := of(9, 4, 3, row(del("a")))
	wantJoin(t, made(b), want, api.OK)
	wantJoin(t, made(b[:1], b[1:]), want, api.OK)
	wantJoin(t, made(b[:2], b[2:3], b[3:]), want, api.OK)
	wantJoin(t, made("\x01", "\x01", "\x01", "a"), want, api.OK)
	wantJoin(t, []api.Frame{part(1, 0, b), seal(1, 1, 0, 1, sum(b), 4)}, of(1, 0, 1, row(del("a"))), api.OK)
	wantJoin(t, []api.Frame{part(maxSeq, 0, b), seal(maxSeq, 1, maxSeq-1, maxSeq, sum(b), 4)}, of(maxSeq, maxSeq-1, maxSeq, row(del("a"))), api.OK)
}

// TestP1002PartsOfAnyLength: no Text has to be just as long as a page has room, and a batch may be too big for any page.
func TestP1002PartsOfAnyLength(t *testing.T) {
	writes := fullest()
	b := bytesOf(t, writes)
	for _, n := range []int{1, 2, 16, 17, 18, 113, 114, 792, 793} {
		var texts []string
		for rest := b; rest != ""; rest = rest[len(texts[len(texts)-1]):] {
			texts = append(texts, rest[:min(n, len(rest))])
		}
		wantJoin(t, made(texts...), of(9, 4, 3, writes), api.OK)
	}
	wantJoin(t, made(b[:5], b[5:300], b[300:301], b[301:]), of(9, 4, 3, writes), api.OK)
}

func TestP1002TooFew(t *testing.T) {
	l := cut(t, row(put("a", "b")))
	wantNoJoin(t, nil, api.ErrShort)
	wantNoJoin(t, []api.Frame{}, api.ErrShort)
	for _, f := range []api.Frame{l[0], l[1], {}, {Kind: 1, A: 1}, {Kind: 4, A: 7, Body: nums(4)}, {Kind: 9, A: 1}, seal(9, 0, 4, 3, 0, 0)} {
		wantNoJoin(t, []api.Frame{f}, api.ErrShort)
	}
	wantNoJoin(t, l[:1], api.ErrShort)
	wantNoJoin(t, l[1:], api.ErrShort)
}

// noPieces are frames that piece.Of refuses.
func noPieces() []api.Frame {
	return []api.Frame{{}, {Kind: 5, A: 9, Body: "a"}, {Kind: -1, A: 9, Body: "a"}, {Kind: 1, A: 9, Body: "a"}, {Kind: 1}, part(9, 0, ""), part(9, 1, ""), part(9, 2, ""), part(0, 1, "a"), part(maxSeq+1, 1, "a"), seal(9, 0, 4, 3, 1, 35), seal(9, 3, 9, 3, 1, 35), seal(9, 3, 4, 0, 1, 35), seal(9, 3, 4, 10, 1, 35), seal(9, 3, 4, 3, 1, 0), {Kind: 3, A: 9, B: 3, Body: nums(4, 3, 1)}, {Kind: 3, A: 9, B: 3, Body: nums(4, 3, 1, 35) + "\x00"}, {Kind: 4, A: 9, Body: nums(10)}}
}

// otherPieces are frames that are pieces, and neither a Part of 9 nor a Seal of it.
func otherPieces() []api.Frame {
	return []api.Frame{{Kind: 1, A: 9}, {Kind: 1, A: 9, B: 1}, {Kind: 4, A: 9, B: 1, Body: nums(4)}, part(8, 0, "a"), part(8, 1, "a"), part(10, 2, "a"), part(maxSeq, 1, "a"), seal(8, 3, 4, 3, 1, 35), seal(10, 3, 4, 3, 1, 35)}
}

// TestP1002AFrameThatIsWrong puts what is no piece, or another one, in each place of a group.
func TestP1002AFrameThatIsWrong(t *testing.T) {
	for _, n := range []int{4, 17, 35, 100} {
		l := cut(t, sized(t, n))
		for at := range l {
			for _, f := range append(noPieces(), otherPieces()...) {
				wrong := slices.Clone(l)
				wrong[at] = f
				wantNoJoin(t, wrong, api.ErrForm)
				wantNoJoin(t, slices.Insert(slices.Clone(l), at, f), api.ErrForm)
			}
		}
		for _, f := range append(noPieces(), otherPieces()...) {
			wantNoJoin(t, append(slices.Clone(l), f), api.ErrForm)
		}
		wantJoin(t, l, of(9, 4, 3, sized(t, n)), api.OK)
	}
}

// TestP1002ASealAhead: even the Seal itself, or one that says the very same, may stand at the end alone.
func TestP1002ASealAhead(t *testing.T) {
	l := cut(t, sized(t, 35))
	last := l[3]
	wantNoJoin(t, []api.Frame{last, last}, api.ErrForm)
	wantNoJoin(t, []api.Frame{l[0], l[1], l[2], last, last}, api.ErrForm)
	wantNoJoin(t, []api.Frame{last, l[1], l[2], last}, api.ErrForm)
	wantNoJoin(t, []api.Frame{l[0], last, l[2], last}, api.ErrForm)
	wantNoJoin(t, []api.Frame{l[0], l[1], last, last}, api.ErrForm)
	wantNoJoin(t, []api.Frame{last, l[0], l[1], l[2]}, api.ErrForm)
}

func TestP1002PartsLeftOutDoubledOrElsewhere(t *testing.T) {
	l := cut(t, sized(t, 35))
	wantNoJoin(t, []api.Frame{l[1], l[2], l[3]}, api.ErrForm)
	wantNoJoin(t, []api.Frame{l[0], l[2], l[3]}, api.ErrForm)
	wantNoJoin(t, []api.Frame{l[0], l[1], l[3]}, api.ErrForm)
	wantNoJoin(t, []api.Frame{l[0], l[1], l[2]}, api.ErrForm)
	wantNoJoin(t, []api.Frame{l[0], l[0], l[1], l[2], l[3]}, api.ErrForm)
	wantNoJoin(t, []api.Frame{l[0], l[1], l[1], l[2], l[3]}, api.ErrForm)
	wantNoJoin(t, []api.Frame{l[0], l[1], l[2], l[2], l[3]}, api.ErrForm)
	wantNoJoin(t, []api.Frame{l[1], l[0], l[2], l[3]}, api.ErrForm)
	wantNoJoin(t, []api.Frame{l[0], l[2], l[1], l[3]}, api.ErrForm)
	wantNoJoin(t, []api.Frame{l[2], l[1], l[0], l[3]}, api.ErrForm)
	wantNoJoin(t, []api.Frame{l[0], l[1], l[3], l[2]}, api.ErrForm)
}

// TestP1002AtIsItsPlace has Parts whose Texts are right, and stand where they belong.
func TestP1002AtIsItsPlace(t *testing.T) {
	l := cut(t, sized(t, 35))
	for at := range 3 {
		for _, n := range numbers(uint32(at)) {
			wrong := slices.Clone(l)
			wrong[at].B = n
			if n == uint32(at) {
				wantJoin(t, wrong, of(9, 4, 3, sized(t, 35)), api.OK)
			} else {
				wantNoJoin(t, wrong, api.ErrForm)
			}
		}
	}
	shifted := slices.Clone(l)
	for at := range 3 {
		shifted[at].B++
	}
	wantNoJoin(t, shifted, api.ErrForm)
}

// TestP1002SeqIsTheSeals has Parts that are right but for their Seq, one of them or all.
func TestP1002SeqIsTheSeals(t *testing.T) {
	l := cut(t, sized(t, 35))
	for _, n := range numbers(9) {
		all := slices.Clone(l)
		for at := range 3 {
			wrong := slices.Clone(l)
			wrong[at].A = n
			all[at].A = n
			if n != 9 {
				wantNoJoin(t, wrong, api.ErrForm)
			}
		}
		if n != 9 {
			wantNoJoin(t, all, api.ErrForm)
		}
	}
}

// TestP1002PartsIsHowMany: one less, one more, and numbers that run over to the right one; no frame is wrong alone.
func TestP1002PartsIsHowMany(t *testing.T) {
	for _, texts := range [][]string{{"\x01\x01\x01a"}, {"\x01\x01", "\x01a"}, {"\x01", "\x01", "\x01", "a"}} {
		for _, n := range numbers(uint32(len(texts)), uint32(len(texts))+1) {
			l := made(texts...)
			l[len(texts)].B = n
			if n == uint32(len(texts)) {
				wantJoin(t, l, of(9, 4, 3, row(del("a"))), api.OK)
			} else {
				wantNoJoin(t, l, api.ErrForm)
			}
		}
	}
}

func TestP1002SizeAndSum(t *testing.T) {
	b := "\x01\x01\x01a"
	for _, size := range numbers(4) {
		if size != 4 && size != 0 {
			wantNoJoin(t, []api.Frame{part(9, 0, b), seal(9, 1, 4, 3, sum(b), size)}, api.ErrSum)
			wantNoJoin(t, []api.Frame{part(9, 0, b[:3]), part(9, 1, b[3:]), seal(9, 2, 4, 3, sum(b), size)}, api.ErrSum)
		}
	}
	for bit := range 32 {
		wantNoJoin(t, []api.Frame{part(9, 0, b), seal(9, 1, 4, 3, sum(b)^1<<bit, 4)}, api.ErrSum)
	}
	wantNoJoin(t, []api.Frame{part(9, 0, b), seal(9, 1, 4, 3, ^sum(b), 4)}, api.ErrSum)
	wantNoJoin(t, []api.Frame{part(9, 0, b), seal(9, 1, 4, 3, sum(""), 4)}, api.ErrSum)
	wantNoJoin(t, []api.Frame{part(9, 0, b[:2]), part(9, 1, b[2:]), seal(9, 2, 4, 3, sum(b[2:]+b[:2]), 4)}, api.ErrSum)
	wantNoJoin(t, []api.Frame{part(9, 0, b[:2]), part(9, 1, b[2:]), seal(9, 2, 4, 3, sum(b[2:]), 4)}, api.ErrSum)
	wantNoJoin(t, []api.Frame{part(9, 0, b+"x"), seal(9, 1, 4, 3, sum(b), 4)}, api.ErrSum)
	wantNoJoin(t, []api.Frame{part(9, 0, b+"x"), seal(9, 1, 4, 3, sum(b), 5)}, api.ErrSum)
	wantNoJoin(t, []api.Frame{part(9, 0, b+"x"), seal(9, 1, 4, 3, sum(b+"x"), 4)}, api.ErrSum)
}

// TestP1002EachByteOfATextCounts turns one bit of each byte: the Texts may still be a batch.
func TestP1002EachByteOfATextCounts(t *testing.T) {
	l := cut(t, sized(t, 60))
	for at := range len(l) - 1 {
		for i := range len(l[at].Body) {
			wrong := slices.Clone(l)
			body := []byte(l[at].Body)
			body[i] ^= 1 << (i % 8)
			wrong[at].Body = string(body)
			wantNoJoin(t, wrong, api.ErrSum)
		}
	}
}

// TestP1002TextsThatAreNoBatch has Size and Sum right.
func TestP1002TextsThatAreNoBatch(t *testing.T) {
	for _, c := range []struct {
		b    string
		code api.Code
	}{
		{"\x00", api.ErrBatch}, {"\x09", api.ErrBatch}, {"\x81\x00", api.ErrForm}, {"\x80", api.ErrShort}, {"\x01", api.ErrShort}, {"\x01\x02\x01a\x00", api.ErrForm},
		{"\x01\x01\x01ax", api.ErrForm}, {"\x01\x01\x02a", api.ErrShort}, {"\x01\x01\x01 ", api.ErrKey}, {"\x01\x01\x00", api.ErrKey}, {"\x01\x00\x01a\x31" + strings.Repeat("v", 49), api.ErrLong},
		{"\x02\x01\x01b\x01\x01a", api.ErrForm}, {"\x02\x01\x01a", api.ErrShort}, {strings.Repeat("\xff", 40), api.ErrForm},
	} {
		_, code := batch.Read(c.b)
		if code != c.code {
			t.Errorf("batch.Read(%q): %d, not %d", c.b, code, c.code)
		}
		wantNoJoin(t, made(c.b), c.code)
		if len(c.b) > 1 {
			wantNoJoin(t, made(c.b[:1], c.b[1:]), c.code)
		}
	}
}

// TestP1002TheFirstFaultCounts has all that follows wrong too.
func TestP1002TheFirstFaultCounts(t *testing.T) {
	no, b := api.Frame{}, "\x00"
	wantNoJoin(t, []api.Frame{no}, api.ErrShort)
	wantNoJoin(t, []api.Frame{seal(9, 7, 4, 3, 1, 7)}, api.ErrShort)
	wantNoJoin(t, []api.Frame{no, seal(9, 1, 4, 3, 1, 7)}, api.ErrForm)
	wantNoJoin(t, []api.Frame{part(9, 0, b), no}, api.ErrForm)
	wantNoJoin(t, []api.Frame{part(9, 0, b), no, seal(9, 2, 4, 3, 1, 7)}, api.ErrForm)
	wantNoJoin(t, []api.Frame{part(8, 0, b), seal(9, 1, 4, 3, 1, 7)}, api.ErrForm)
	wantNoJoin(t, []api.Frame{part(9, 1, b), seal(9, 1, 4, 3, 1, 7)}, api.ErrForm)
	wantNoJoin(t, []api.Frame{part(9, 0, b), seal(9, 2, 4, 3, 1, 7)}, api.ErrForm)
	wantNoJoin(t, []api.Frame{part(9, 0, b), seal(9, 1, 4, 3, 1, 7)}, api.ErrSum)
	wantNoJoin(t, []api.Frame{part(9, 0, b), seal(9, 1, 4, 3, 1, 1)}, api.ErrSum)
	wantNoJoin(t, []api.Frame{part(9, 0, b), seal(9, 1, 4, 3, sum(b), 7)}, api.ErrSum)
	wantNoJoin(t, []api.Frame{part(9, 0, b), seal(9, 1, 4, 3, sum(b), 1)}, api.ErrBatch)
}

// TestP1002VeryManyParts are far more than any batch has bytes.
func TestP1002VeryManyParts(t *testing.T) {
	b := "\x01\x01\x01a" + strings.Repeat("x", 100000)
	l := made(strings.Split(b, "")...)
	if got, code := Join(l); code != api.ErrForm || !equalGroups(got, api.Group{}) {
		t.Errorf("%+v %d", got, code)
	}
	l[len(l)-1].B++
	if got, code := Join(l); code != api.ErrForm || !equalGroups(got, api.Group{}) {
		t.Errorf("%+v %d", got, code)
	}
	if got, code := Join(made(b)); code != api.ErrForm || !equalGroups(got, api.Group{}) {
		t.Errorf("%+v %d", got, code)
	}
}

func TestP1002AnswersAreTheirOwn(t *testing.T) {
	l := cut(t, sized(t, 100))
	first, _ := Join(l)
	second, _ := Join(l)
	clear(second.Writes)
	kept := slices.Clone(l)
	clear(l)
	if want := of(9, 4, 3, sized(t, 100)); !equalGroups(first, want) {
		t.Errorf("%+v, not %+v", first, want)
	}
	clear(first.Writes)
	wantJoin(t, kept, of(9, 4, 3, sized(t, 100)), api.OK)
}

// cutSaid is what the document says of Cut, sentence by sentence.
func cutSaid(g api.Geom, x api.Group) ([]api.Frame, api.Code) {
	if g.Page < 32 || g.Page > 128 || g.Pages < 3 || g.Pages > 10 || g.Regions < 4 || g.Regions > 12 {
		return nil, api.ErrArg
	}
	b, code := batch.Bytes(x.Writes)
	if code != api.OK {
		return nil, code
	}
	if x.Seq > maxSeq || x.Prev >= x.Seq || x.From < 1 || x.From > x.Seq {
		return nil, api.ErrForm
	}
	room := g.Page - 15
	many := (len(b) + room - 1) / room
	if many+1 > (g.Regions-3)*(g.Pages-1) {
		return nil, api.ErrBig
	}
	var l []api.Frame
	for i := range many {
		l = append(l, part(x.Seq, uint32(i), b[i*room:min(len(b), (i+1)*room)]))
	}
	return append(l, seal(x.Seq, uint32(many), x.Prev, x.From, sum(b), uint32(len(b)))), api.OK
}

// refused says whether f is no piece: not of the four kinds, each field as it must be.
func refused(f api.Frame) bool {
	number := func(i int) uint32 { return binary.LittleEndian.Uint32([]byte(f.Body)[4*i:]) }
	switch {
	case f.A < 1 || f.A > maxSeq:
		return true
	case f.Kind == 1:
		return f.Body != ""
	case f.Kind == 2:
		return f.Body == ""
	case f.Kind == 3:
		return f.B == 0 || len(f.Body) != 16 || number(0) >= f.A || number(1) < 1 || number(1) > f.A || number(3) == 0
	case f.Kind == 4:
		return len(f.Body) != 4 || number(0) > f.A
	}
	return true
}

// joinSaid is what the document says of Join, sentence by sentence.
func joinSaid(l []api.Frame) (api.Group, api.Code) {
	if len(l) < 2 {
		return api.Group{}, api.ErrShort
	}
	if slices.ContainsFunc(l, refused) {
		return api.Group{}, api.ErrForm
	}
	parts, last := l[:len(l)-1], l[len(l)-1]
	if last.Kind != 3 {
		return api.Group{}, api.ErrForm
	}
	text := ""
	for i, f := range parts {
		if f.Kind != 2 || f.A != last.A || int64(f.B) != int64(i) {
			return api.Group{}, api.ErrForm
		}
		text += f.Body
	}
	if int64(last.B) != int64(len(parts)) {
		return api.Group{}, api.ErrForm
	}
	number := func(i int) uint32 { return binary.LittleEndian.Uint32([]byte(last.Body)[4*i:]) }
	if int64(number(3)) != int64(len(text)) || number(2) != sum(text) {
		return api.Group{}, api.ErrSum
	}
	writes, code := batch.Read(text)
	if code != api.OK {
		return api.Group{}, code
	}
	return of(last.A, number(0), number(1), writes), api.OK
}

// TestP1001EachSizeOnEachDevice holds Cut against what the document says, and Join against Cut.
func TestP1001EachSizeOnEachDevice(t *testing.T) {
	batches := [][]api.Write{fullest()}
	for n := 4; n <= 505; n++ {
		batches = append(batches, sized(t, n))
	}
	told := map[api.Code]int{}
	for _, page := range []int{32, 33, 47, 64, 127, 128} {
		for pages := 3; pages <= 10; pages++ {
			for regions := 4; regions <= 12; regions++ {
				g := api.Geom{Page: page, Pages: pages, Regions: regions}
				for i, writes := range batches {
					if (i+pages+regions)%7 != 0 {
						continue
					}
					x := of(uint32(i+1), uint32(i), uint32(i+1), writes)
					want, code := cutSaid(g, x)
					told[code]++
					wantCut(t, g, x, want, code)
					if code == api.OK {
						wantJoin(t, want, x, api.OK)
					}
				}
			}
		}
	}
	if told[api.OK] < 1000 || told[api.ErrBig] < 1000 {
		t.Errorf("too few of a code: %v", told)
	}
}

// dice tells numbers one after the other, from a seed, the same ones each time.
type dice uint32

func (d *dice) roll(n int) int {
	*d = *d*1664525 + 1013904223
	return int(uint64(*d) * uint64(n) >> 32)
}

func (d *dice) number() uint32 {
	if l := numbers(); d.roll(6) == 0 {
		return l[d.roll(len(l))]
	}
	return uint32(d.roll(12))
}

// geom is one that may not be, once in a while.
func (d *dice) geom() api.Geom {
	if l := wrongGeoms(); d.roll(20) == 0 {
		return l[d.roll(len(l))]
	}
	return api.Geom{Page: 32 + d.roll(40), Pages: 3 + d.roll(8), Regions: 4 + d.roll(2)}
}

// writes are a batch most times.
func (d *dice) writes() []api.Write {
	var l []api.Write
	for range d.roll(10) {
		key := []string{"a", "b", "c", "é", "ab", "世界", "a b", "", "z"}[d.roll(9)]
		l = append(l, api.Write{Key: key, Del: d.roll(3) == 0, Val: strings.Repeat("v", max(0, d.roll(60)-10))})
	}
	if d.roll(8) == 0 {
		return l
	}
	l = slices.DeleteFunc(batch.Make(l), func(w api.Write) bool { return w.Key == "" || w.Key == "a b" })
	for i := range l {
		l[i].Val = l[i].Val[:min(48, len(l[i].Val))]
	}
	return l
}

func TestP1001AsTheDocumentSays(t *testing.T) {
	d := dice(1)
	told := map[api.Code]int{}
	for range 100000 {
		g, x := d.geom(), of(d.number(), d.number(), d.number(), d.writes())
		if d.roll(3) > 0 {
			x.Seq, x.Prev = max(x.Seq, x.Prev)&maxSeq+1, min(x.Seq, x.Prev)
		}
		want, code := cutSaid(g, x)
		told[code]++
		wantCut(t, g, x, want, code)
		if code == api.OK {
			wantJoin(t, want, x, api.OK)
		}
	}
	for _, code := range []api.Code{api.OK, api.ErrArg, api.ErrBatch, api.ErrKey, api.ErrVal, api.ErrForm, api.ErrBig} {
		if told[code] < 150 {
			t.Errorf("%d: too few: %v", code, told)
		}
	}
}

// texts cuts b somewhere; no piece of it is empty.
func (d *dice) texts(b string) []string {
	var l []string
	for b != "" {
		n := 1 + d.roll(min(len(b), 40))
		l, b = append(l, b[:n]), b[n:]
	}
	return l
}

// frames are a group's, or those of texts that may be no batch.
func (d *dice) frames() []api.Frame {
	b, code := batch.Bytes(d.writes())
	if code != api.OK || d.roll(6) == 0 {
		b = "\x01\x01\x01a" + strings.Repeat("\x00", d.roll(3))
	}
	if d.roll(8) == 0 {
		b = b[:1+d.roll(len(b))]
	}
	return made(d.texts(b)...)
}

// spoil is l with one thing done to it.
func (d *dice) spoil(l []api.Frame) []api.Frame {
	if len(l) == 0 {
		return l
	}
	at, other := d.roll(len(l)), d.roll(len(l))
	others := append(noPieces(), otherPieces()...)
	switch d.roll(10) {
	case 0:
		return slices.Delete(l, at, at+1)
	case 1:
		return slices.Insert(l, at, l[other])
	case 2:
		l[at], l[other] = l[other], l[at]
	case 3:
		l[at] = others[d.roll(len(others))]
	case 4:
		l[at].Kind = d.roll(6)
	case 5:
		l[at].A = d.number()
	case 6:
		l[at].B = d.number()
	case 7:
		l[at].Body = l[at].Body[:d.roll(len(l[at].Body)+1)]
	case 8:
		return l[:d.roll(len(l)+1)]
	case 9:
		last := &l[len(l)-1]
		last.Body += nums(0, 0, 0, 0)
		field := d.roll(4)
		last.Body = last.Body[:4*field] + nums(d.number()) + last.Body[4*field+4:16]
	}
	return l
}

func TestP1002AsTheDocumentSays(t *testing.T) {
	d := dice(2)
	told := map[api.Code]int{}
	for range 200000 {
		l := d.frames()
		for range d.roll(3) {
			l = d.spoil(l)
		}
		want, code := joinSaid(l)
		told[code]++
		wantJoin(t, l, want, code)
	}
	for _, code := range []api.Code{api.OK, api.ErrShort, api.ErrForm, api.ErrSum} {
		if told[code] < 2000 {
			t.Errorf("%d: too few: %v", code, told)
		}
	}
}
