package piece

import (
	"encoding/binary"
	"fmt"
	"math"
	"strings"
	"testing"

	"cachepot/api"
)

const maxSeq = math.MaxInt32

// nums is numbers of four bytes each, the lowest first, as the library lays them.
func nums(l ...uint32) string {
	var b []byte
	for _, n := range l {
		b = binary.LittleEndian.AppendUint32(b, n)
	}
	return string(b)
}

func of(kind int, a, b uint32, body string) api.Frame {
	return api.Frame{Kind: kind, A: a, B: b, Body: body}
}

// wantOf asks that f is the piece want; nil: that it is none.
func wantOf(t *testing.T, f api.Frame, want Piece) {
	t.Helper()
	code := api.OK
	if want == nil {
		code = api.ErrForm
	}
	if got, gotCode := Of(f); got != want || gotCode != code {
		t.Errorf("Of(%+v): %#v %d, not %#v %d", f, got, gotCode, want, code)
	}
}

func wantFrame(t *testing.T, p Piece, want api.Frame) {
	t.Helper()
	if got, code := Frame(p); got != want || code != api.OK {
		t.Errorf("Frame(%#v): %+v %d, not %+v", p, got, code, want)
	}
}

func wantNoFrame(t *testing.T, p Piece) {
	t.Helper()
	if got, code := Frame(p); got != (api.Frame{}) || code != api.ErrForm {
		t.Errorf("Frame(%#v): %+v %d, not ErrForm alone", p, got, code)
	}
}

// wantOne asks that f and p are one thing, said in two ways.
func wantOne(t *testing.T, f api.Frame, p Piece) {
	t.Helper()
	wantOf(t, f, p)
	wantFrame(t, p, f)
}

// wantNeither asks that f is no piece, and that p, which says what f says, has no frame.
func wantNeither(t *testing.T, f api.Frame, p Piece) {
	t.Helper()
	wantOf(t, f, nil)
	wantNoFrame(t, p)
}

// wantBoth is wantOne or wantNeither.
func wantBoth(t *testing.T, right bool, f api.Frame, p Piece) {
	t.Helper()
	if right {
		wantOne(t, f, p)
	} else {
		wantNeither(t, f, p)
	}
}

// seqs are right ones and wrong ones, at the edges.
func seqs() (right, wrong []uint32) {
	return []uint32{1, 2, 7, 255, 256, 0x04030201, maxSeq - 1, maxSeq}, []uint32{0, maxSeq + 1, maxSeq + 2, 0xfcfdfeff, math.MaxUint32 - 1, math.MaxUint32}
}

// anyNumbers are those of a field that may have any.
func anyNumbers() []uint32 {
	return []uint32{0, 1, 2, 255, 256, 1 << 16, 1 << 24, 0x04030201, maxSeq, maxSeq + 1, math.MaxUint32 - 1, math.MaxUint32}
}

// around are the numbers near n, and those at the ends; some run over.
func around(n uint32) []uint32 {
	return []uint32{0, 1, 2, n - 2, n - 1, n, n + 1, n + 2, maxSeq, maxSeq + 1, math.MaxUint32}
}

// texts are those that a Part may have: any that is not empty.
func texts() []string {
	l := []string{"\x00\x00\x00\x00", "ab", "é", "\xc3\x28", nums(1), nums(0, 1, 0, 1), strings.Repeat("x", 113), strings.Repeat("\xff", 114), strings.Repeat("y", 100000)}
	for c := range 256 {
		l = append(l, string([]byte{byte(c)}))
	}
	return l
}

func TestP901OfHead(t *testing.T) {
	wantOne(t, of(1, 1, 2, ""), Head{Epoch: 1, Region: 2})
	right, wrong := seqs()
	for _, region := range anyNumbers() {
		for _, n := range right {
			wantOne(t, of(1, n, region, ""), Head{Epoch: n, Region: region})
		}
		for _, n := range wrong {
			wantNeither(t, of(1, n, region, ""), Head{Epoch: n, Region: region})
		}
	}
	for _, body := range texts() {
		wantOf(t, of(1, 1, 2, body), nil)
	}
}

func TestP901OfPart(t *testing.T) {
	wantOne(t, of(2, 7, 0, "ab"), Part{Seq: 7, Text: "ab"})
	right, wrong := seqs()
	for _, at := range anyNumbers() {
		for _, n := range right {
			for _, text := range []string{"a", "\x00", "ab\xff"} {
				wantOne(t, of(2, n, at, text), Part{Seq: n, At: at, Text: text})
			}
			wantNeither(t, of(2, n, at, ""), Part{Seq: n, At: at})
		}
		for _, n := range wrong {
			wantNeither(t, of(2, n, at, "ab"), Part{Seq: n, At: at, Text: "ab"})
			wantNeither(t, of(2, n, at, ""), Part{Seq: n, At: at})
		}
	}
	for _, text := range texts() {
		wantOne(t, of(2, 7, 3, text), Part{Seq: 7, At: 3, Text: text})
	}
}

// sealed is a Seal, and its frame as the document lays it.
func sealed(s Seal) (api.Frame, Piece) {
	return of(3, s.Seq, s.Parts, nums(s.Prev, s.From, s.Sum, s.Size)), s
}

func wantSeal(t *testing.T, right bool, s Seal) {
	t.Helper()
	f, p := sealed(s)
	wantBoth(t, right, f, p)
}

func TestP901OfSeal(t *testing.T) {
	wantOne(t, of(3, 9, 2, "\x06\x00\x00\x00\x07\x00\x00\x00\x04\x03\x02\x01\x0a\x00\x00\x00"), Seal{Seq: 9, Parts: 2, Prev: 6, From: 7, Sum: 0x01020304, Size: 10})
	right, wrong := seqs()
	for _, n := range right {
		wantSeal(t, true, Seal{Seq: n, Parts: 1, Prev: 0, From: 1, Sum: 5, Size: 1})
		wantSeal(t, true, Seal{Seq: n, Parts: 1, Prev: n - 1, From: n, Sum: 5, Size: 1})
	}
	for _, n := range wrong {
		for _, from := range around(n) {
			wantSeal(t, false, Seal{Seq: n, Parts: 1, Prev: 0, From: from, Sum: 5, Size: 1})
			wantSeal(t, false, Seal{Seq: n, Parts: 1, Prev: n - 1, From: from, Sum: 5, Size: 1})
		}
	}
}

func TestP901OfSealWithAnyPartsSumAndSize(t *testing.T) {
	for _, n := range anyNumbers() {
		wantSeal(t, true, Seal{Seq: 9, Parts: 2, Prev: 6, From: 7, Sum: n, Size: 10})
		wantSeal(t, n > 0, Seal{Seq: 9, Parts: n, Prev: 6, From: 7, Sum: 1, Size: 10})
		wantSeal(t, n > 0, Seal{Seq: 9, Parts: 2, Prev: 6, From: 7, Sum: 1, Size: n})
	}
}

func TestP901OfSealHoldsPrevAndFromAgainstSeq(t *testing.T) {
	right, _ := seqs()
	for _, n := range right {
		for _, prev := range around(n) {
			for _, from := range around(n) {
				wantSeal(t, prev < n && from != 0 && from <= n, Seal{Seq: n, Parts: 2, Prev: prev, From: from, Sum: 1, Size: 10})
			}
		}
	}
}

func TestP901OfSealHasFourNumbersInItsBody(t *testing.T) {
	long := nums(6, 7, 9, 10, 1, 1, 1, 1, 1)
	for size := range len(long) {
		if size == 16 {
			wantOf(t, of(3, 9, 2, long[:size]), Seal{Seq: 9, Parts: 2, Prev: 6, From: 7, Sum: 9, Size: 10})
		} else {
			wantOf(t, of(3, 9, 2, long[:size]), nil)
		}
	}
	for c := range 256 {
		wantOf(t, of(3, 9, 2, long[:16]+string([]byte{byte(c)})), nil)
	}
}

func TestP901OfFloor(t *testing.T) {
	wantOne(t, of(4, 7, 3, "\x04\x00\x00\x00"), Floor{Seq: 7, Forgets: 3, From: 4})
	right, wrong := seqs()
	for _, forgets := range anyNumbers() {
		for _, n := range right {
			for _, from := range around(n) {
				wantBoth(t, from <= n, of(4, n, forgets, nums(from)), Floor{Seq: n, Forgets: forgets, From: from})
			}
		}
		for _, n := range wrong {
			for _, from := range around(n) {
				wantNeither(t, of(4, n, forgets, nums(from)), Floor{Seq: n, Forgets: forgets, From: from})
			}
		}
	}
	for _, from := range []uint32{0x01020304, 0x04030201, 1 << 24, 1 << 16, 256} {
		wantOne(t, of(4, maxSeq, 3, nums(from)), Floor{Seq: maxSeq, Forgets: 3, From: from})
	}
}

func TestP901OfFloorHasOneNumberInItsBody(t *testing.T) {
	long := nums(4, 0, 0, 0, 0)
	for size := range len(long) {
		if size == 4 {
			wantOf(t, of(4, 7, 3, long[:size]), Floor{Seq: 7, Forgets: 3, From: 4})
		} else {
			wantOf(t, of(4, 7, 3, long[:size]), nil)
		}
	}
	for c := range 256 {
		wantOf(t, of(4, 7, 3, long[:4]+string([]byte{byte(c)})), nil)
		wantOf(t, of(4, 7, 3, long[:3]+string([]byte{byte(c)})), map[bool]Piece{true: Floor{Seq: 7, Forgets: 3, From: 4}}[c == 0])
	}
}

// TestP901OfWrongKinds has of each wrong kind what would be right of one of the four; a byte of some of them is a kind.
func TestP901OfWrongKinds(t *testing.T) {
	kinds := []int{0, 5, 6, -1, -2, -3, -4, 255, 256, 257, 258, 259, 260, -252, -255, 1<<16 + 1, 1<<32 + 1, 1<<32 + 4, math.MaxInt32, math.MinInt32, math.MaxInt, math.MinInt, math.MinInt + 1, math.MinInt + 4}
	for _, kind := range kinds {
		for _, body := range []string{"", "a", nums(1), nums(0, 1, 0, 1)} {
			for _, a := range []uint32{0, 1, 7, maxSeq} {
				for _, b := range []uint32{0, 1, math.MaxUint32} {
					wantOf(t, of(kind, a, b, body), nil)
				}
			}
		}
	}
}

// TestP901OfEachKindWithTheBodyOfEach: it is the Kind that says how a Body is read.
func TestP901OfEachKindWithTheBodyOfEach(t *testing.T) {
	seal, floor := nums(0, 1, 0, 1), nums(1)
	wantOf(t, of(1, 7, 2, ""), Head{Epoch: 7, Region: 2})
	for _, body := range []string{"ab", seal, floor} {
		wantOf(t, of(1, 7, 2, body), nil)
		wantOf(t, of(2, 7, 2, body), Part{Seq: 7, At: 2, Text: body})
	}
	for _, body := range []string{"", "ab", floor, seal + floor} {
		wantOf(t, of(3, 7, 2, body), nil)
	}
	wantOf(t, of(3, 7, 2, seal), Seal{Seq: 7, Parts: 2, From: 1, Size: 1})
	for _, body := range []string{"", "ab", seal, floor + floor} {
		wantOf(t, of(4, 7, 2, body), nil)
	}
	wantOf(t, of(4, 7, 2, floor), Floor{Seq: 7, Forgets: 2, From: 1})
}

func wantKind(t *testing.T, p Piece, want int) {
	t.Helper()
	if got := p.Kind(); got != want {
		t.Errorf("Kind of %#v: %d, not %d", p, got, want)
	}
}

// TestP901Kind: what the fields are has no weight.
func TestP901Kind(t *testing.T) {
	for _, n := range anyNumbers() {
		wantKind(t, Head{n, n}, 1)
		wantKind(t, Part{n, n, ""}, 2)
		wantKind(t, Part{n, n, "ab"}, 2)
		wantKind(t, Seal{n, n, n, n, n, n}, 3)
		wantKind(t, Floor{n, n, n}, 4)
	}
	for kind, f := range map[int]api.Frame{1: of(1, 7, 1, ""), 2: of(2, 7, 1, "a"), 3: of(3, 7, 1, nums(0, 1, 0, 1)), 4: of(4, 7, 1, nums(1))} {
		p, code := Of(f)
		if code != api.OK {
			t.Fatalf("Of(%+v): %d", f, code)
		}
		wantKind(t, p, kind)
	}
}

// stranger tells the Kind of one of the four, and is none of them.
type stranger struct{ kind int }

func (s stranger) Kind() int { return s.kind }

// looksLike has the fields of a Head, and its Kind.
type looksLike struct{ Epoch, Region uint32 }

func (looksLike) Kind() int { return 1 }

// These have the Kind of what they embed, and all its fields.
type (
	withHead  struct{ Head }
	withPart  struct{ Part }
	withSeal  struct{ Seal }
	withFloor struct{ Floor }
	withAny   struct{ Piece }
)

// loud may not be asked for its Kind: a call of this package has nothing to learn from it.
type loud struct{}

func (loud) Kind() int { panic("asked") }

// numbered is no struct at all.
type numbered int

func (n numbered) Kind() int { return int(n) }

// rightOnes are one of each type, that has a frame.
func rightOnes() (Head, Part, Seal, Floor) {
	return Head{1, 2}, Part{7, 3, "ab"}, Seal{9, 2, 6, 7, 9, 10}, Floor{7, 3, 4}
}

// strangers are pieces that are none of the four types.
func strangers() []Piece {
	h, p, s, f := rightOnes()
	l := []Piece{nil, &h, &p, &s, &f, (*Head)(nil), (*Part)(nil), (*Seal)(nil), (*Floor)(nil), withHead{h}, withPart{p}, withSeal{s}, withFloor{f}, &withHead{h}, withAny{h}, withAny{p}, withAny{s}, withAny{f}, withAny{}, loud{}, &loud{}, looksLike{1, 2}}
	for _, kind := range []int{0, 1, 2, 3, 4, 5, -1, math.MinInt, math.MaxInt} {
		l = append(l, stranger{kind}, &stranger{kind}, numbered(kind))
	}
	return l
}

func TestP901FrameOfNilAndOtherTypes(t *testing.T) {
	for _, p := range strangers() {
		wantNoFrame(t, p)
	}
}

func TestP901FrameOfZeroFields(t *testing.T) {
	for _, p := range []Piece{Head{}, Part{}, Seal{}, Floor{}} {
		wantNoFrame(t, p)
	}
}

// said is what the document says of f, sentence by sentence; nil: it is no piece.
func said(f api.Frame) Piece {
	if f.A == 0 || f.A > maxSeq {
		return nil
	}
	number := func(i int) uint32 { return binary.LittleEndian.Uint32([]byte(f.Body)[4*i:]) }
	switch {
	case f.Kind == 1 && f.Body == "":
		return Head{f.A, f.B}
	case f.Kind == 2 && f.Body != "":
		return Part{f.A, f.B, f.Body}
	case f.Kind == 3 && f.B != 0 && len(f.Body) == 16:
		if number(0) >= f.A || number(1) == 0 || number(1) > f.A || number(3) == 0 {
			return nil
		}
		return Seal{f.A, f.B, number(0), number(1), number(2), number(3)}
	case f.Kind == 4 && len(f.Body) == 4:
		if number(0) > f.A {
			return nil
		}
		return Floor{f.A, f.B, number(0)}
	}
	return nil
}

// dice tells numbers one after the other, from a seed, the same ones each time.
type dice uint32

func (d *dice) roll(n int) int {
	*d = *d*1664525 + 1013904223
	return int(uint64(*d) * uint64(n) >> 32)
}

// number is a small one most times, and else one of the edges or any.
func (d *dice) number() uint32 {
	switch l := anyNumbers(); d.roll(5) {
	case 0:
		return l[d.roll(len(l))]
	case 1:
		return uint32(d.roll(1<<16))<<16 + uint32(d.roll(1<<16))
	}
	return uint32(d.roll(5))
}

// body is of whole numbers most times, and else of any length.
func (d *dice) body() string {
	b := ""
	for range []int{0, 1, 4, 4, 4, d.roll(6)}[d.roll(6)] {
		b += nums(d.number())
	}
	if d.roll(5) == 0 {
		return b[:d.roll(len(b)+1)]
	}
	return b
}

// TestP901OfAndFrameAreEachOthersBack holds the two calls against each other, and both against what the document says.
func TestP901OfAndFrameAreEachOthersBack(t *testing.T) {
	d := dice(1)
	told := map[int]int{}
	for range 300000 {
		f := of(d.roll(6), d.number(), d.number(), d.body())
		want := said(f)
		wantOf(t, f, want)
		if want != nil {
			wantFrame(t, want, f)
			told[f.Kind]++
		} else {
			told[0]++
		}
	}
	for kind := range 5 {
		if told[kind] < 1000 {
			t.Errorf("%d of Kind %d: too few", told[kind], kind)
		}
	}
}

// TestP901FrameIsOfBack starts at pieces, right and wrong ones.
func TestP901FrameIsOfBack(t *testing.T) {
	d := dice(2)
	right := 0
	for range 100000 {
		a, b, c := d.number(), d.number(), d.number()
		for _, p := range []Piece{Head{a, b}, Part{a, b, d.body()}, Seal{a, b, c, d.number(), d.number(), d.number()}, Floor{a, b, c}} {
			f, code := Frame(p)
			if code != api.OK {
				wantNoFrame(t, p)
				continue
			}
			right++
			wantOf(t, f, p)
		}
	}
	if right < 100000 || right > 350000 {
		t.Errorf("%d pieces of 400000 were right: too few of one sort", right)
	}
}

// wantAs asks what the three calls tell of p; of a zero value that it is not p's.
func wantAs(t *testing.T, p Piece, part Part, isPart bool, seal Seal, isSeal bool, floor Floor, isFloor bool) {
	t.Helper()
	if got, ok := AsPart(p); got != part || ok != isPart {
		t.Errorf("AsPart(%#v): %+v %v", p, got, ok)
	}
	if got, ok := AsSeal(p); got != seal || ok != isSeal {
		t.Errorf("AsSeal(%#v): %+v %v", p, got, ok)
	}
	if got, ok := AsFloor(p); got != floor || ok != isFloor {
		t.Errorf("AsFloor(%#v): %+v %v", p, got, ok)
	}
}

// TestP902AsOfEachType: whether a frame may say it has no weight.
func TestP902AsOfEachType(t *testing.T) {
	h, p, s, f := rightOnes()
	for range 2 {
		wantAs(t, h, Part{}, false, Seal{}, false, Floor{}, false)
		wantAs(t, p, p, true, Seal{}, false, Floor{}, false)
		wantAs(t, s, Part{}, false, s, true, Floor{}, false)
		wantAs(t, f, Part{}, false, Seal{}, false, f, true)
		h, p, s, f = Head{}, Part{}, Seal{}, Floor{}
	}
	for _, n := range anyNumbers() {
		wantAs(t, Head{n, n + 1}, Part{}, false, Seal{}, false, Floor{}, false)
		for _, text := range []string{"", "a", "ab\x00"} {
			wantAs(t, Part{n, n + 1, text}, Part{n, n + 1, text}, true, Seal{}, false, Floor{}, false)
		}
		wantAs(t, Seal{n, n + 1, n + 2, n + 3, n + 4, n + 5}, Part{}, false, Seal{n, n + 1, n + 2, n + 3, n + 4, n + 5}, true, Floor{}, false)
		wantAs(t, Floor{n, n + 1, n + 2}, Part{}, false, Seal{}, false, Floor{n, n + 1, n + 2}, true)
	}
}

func TestP902AsOfNilAndOtherTypes(t *testing.T) {
	for _, p := range strangers() {
		wantAs(t, p, Part{}, false, Seal{}, false, Floor{}, false)
	}
}

func TestP902AsOfWhatOfTells(t *testing.T) {
	for _, f := range []api.Frame{of(1, 1, 2, ""), of(2, 7, 3, "ab"), of(3, 9, 2, nums(6, 7, 9, 10)), of(4, 7, 3, nums(4)), of(1, 0, 2, ""), of(5, 1, 2, "")} {
		p, _ := Of(f)
		part, _ := said(f).(Part)
		seal, _ := said(f).(Seal)
		floor, _ := said(f).(Floor)
		wantAs(t, p, part, f.Kind == 2, seal, f.Kind == 3, floor, f.Kind == 4)
	}
}

// TestP901TwiceIsTheSame: no call hangs on those ahead of it.
func TestP901TwiceIsTheSame(t *testing.T) {
	h, p, s, f := rightOnes()
	all := func() string {
		var l []any
		for _, x := range []Piece{h, p, s, f, nil, Head{}, &p} {
			frame, code := Frame(x)
			back, backCode := Of(frame)
			l = append(l, frame, code, back, backCode)
		}
		return fmt.Sprintf("%#v", l)
	}
	if first, second := all(), all(); first != second {
		t.Errorf("%s, and then %s", first, second)
	}
}
