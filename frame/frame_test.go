package frame

import (
	"encoding/binary"
	"hash/crc32"
	"math"
	"slices"
	"strings"
	"testing"

	"cachepot/api"
)

// device is a right one, with so many bytes a page.
func device(page int) api.Geom { return api.Geom{Page: page, Pages: 3, Regions: 4} }

func of(kind int, a, b uint32, body string) api.Frame {
	return api.Frame{Kind: kind, A: a, B: b, Body: body}
}

// fill is n bytes c.
func fill(c byte, n int) string { return strings.Repeat(string([]byte{c}), n) }

// made is n bytes, of any values.
func made(n, seed int) string {
	b := make([]byte, n)
	x := uint32(seed)*2654435761 + 1
	for i := range b {
		x = x*1664525 + 1013904223
		b[i] = byte(x >> 24)
	}
	return string(b)
}

// sealed is the text, and behind it its sum by the library.
func sealed(ahead string) string {
	return string(binary.LittleEndian.AppendUint32([]byte(ahead), crc32.ChecksumIEEE([]byte(ahead))))
}

// laid is the page as the document says it, field by field; what does not fit is cut off.
func laid(page, kind int, a, b uint32, size int, behind string) string {
	l := []byte{byte(kind)}
	l = binary.LittleEndian.AppendUint32(l, a)
	l = binary.LittleEndian.AppendUint32(l, b)
	l = binary.LittleEndian.AppendUint16(l, uint16(size))
	l = append(append(l, behind...), make([]byte, page)...)
	return sealed(string(l[:page-4]))
}

// plain is laid of a frame.
func plain(page int, f api.Frame) string {
	return laid(page, f.Kind, f.A, f.B, len(f.Body), f.Body)
}

// with is the text with the byte at that place turned by x.
func with(s string, at int, x byte) string {
	b := []byte(s)
	b[at] ^= x
	return string(b)
}

// resealed is the page with that byte turned and its sum set right again.
func resealed(page string, at int, x byte) string {
	return sealed(with(page, at, x)[:len(page)-4])
}

// numbers are edges of A and B, and numbers whose four bytes differ.
func numbers() []uint32 {
	return []uint32{0, 1, 255, 256, 1 << 16, 1 << 24, 0x04030201, 0xfcfdfeff, math.MaxInt32, 1 << 31, math.MaxUint32}
}

// bodies are those that a page of so many bytes has room for, at its edges and of unlike bytes.
func bodies(page int) []string {
	room := page - 15
	l := []string{"", "\x00", "\xff", "a", "ab", "\x00\x00\x00", "é", "\xc3\x28"}
	for _, n := range []int{room / 2, room - 1, room} {
		l = append(l, fill(0, n), fill(255, n), fill('x', n), made(n, page+n))
	}
	return l
}

// frames are ordinary ones of every kind, and edges.
func frames(page int) []api.Frame {
	var l []api.Frame
	for kind := 1; kind <= 4; kind++ {
		for i, body := range bodies(page) {
			l = append(l, of(kind, 7, 9, body), of(kind, 0, 0, body), of(kind, math.MaxUint32, math.MaxUint32, body), of(kind, uint32(i)*0x01020304, 0x04030201, body))
		}
	}
	return l
}

// pageSizes are the least, the greatest, their neighbours, and some between.
func pageSizes() []int { return []int{32, 33, 45, 64, 127, 128} }

func wantBlank(t *testing.T, b string, want bool) {
	t.Helper()
	if got := Blank(b); got != want {
		t.Errorf("Blank(%q): %v, not %v", b, got, want)
	}
}

func wantBytes(t *testing.T, g api.Geom, f api.Frame, want string, code api.Code) {
	t.Helper()
	if got, gotCode := Bytes(g, f); got != want || gotCode != code {
		t.Errorf("Bytes(%+v, %+v): %q %d, not %q %d", g, f, got, gotCode, want, code)
	}
}

func wantRead(t *testing.T, b string, want api.Frame, code api.Code) {
	t.Helper()
	if got, gotCode := Read(b); got != want || gotCode != code {
		t.Errorf("Read(%q): %+v %d, not %+v %d", b, got, gotCode, want, code)
	}
}

func wantRefused(t *testing.T, b string, code api.Code) {
	t.Helper()
	wantRead(t, b, api.Frame{}, code)
}

func TestP801BlankOf255Alone(t *testing.T) {
	for n := range 300 {
		wantBlank(t, fill(255, n), true)
	}
	wantBlank(t, fill(255, 5000), true)
}

func TestP801BlankHeedsEachByte(t *testing.T) {
	for _, n := range []int{1, 2, 3, 31, 32, 33, 128, 129, 1000} {
		for at := range n {
			for _, x := range []byte{1, 2, 4, 8, 16, 32, 64, 128, 255} {
				wantBlank(t, with(fill(255, n), at, x), false)
			}
		}
	}
	for c := range 255 {
		wantBlank(t, string([]byte{byte(c)}), false)
		wantBlank(t, fill(byte(c), 32), false)
	}
	wantBlank(t, "ÿ", false)
	wantBlank(t, fill(255, 32)+"\x00", false)
}

func TestP801BytesKnown(t *testing.T) {
	part := "\x02\x07\x00\x00\x00\x00\x00\x00\x01\x02\x00ab" + fill(0, 15)
	wantBytes(t, device(32), of(api.KindPart, 7, 1<<24, "ab"), part+"\x4b\xc2\xbf\x0a", api.OK)
	wantBytes(t, device(32), of(api.KindHead, 1, 2, ""), sealed("\x01\x01\x00\x00\x00\x02\x00\x00\x00\x00\x00"+fill(0, 17)), api.OK)
	wantBytes(t, device(32), of(api.KindSeal, 0x04030201, 0x08070605, fill('x', 17)), sealed("\x03\x01\x02\x03\x04\x05\x06\x07\x08\x11\x00"+fill('x', 17)), api.OK)
	wantBytes(t, device(128), of(api.KindFloor, math.MaxUint32, 0, fill(255, 113)), sealed("\x04\xff\xff\xff\xff\x00\x00\x00\x00\x71\x00"+fill(255, 113)), api.OK)
}

func TestP801BytesOfFrames(t *testing.T) {
	for _, page := range pageSizes() {
		for _, f := range frames(page) {
			want := plain(page, f)
			if len(want) != page {
				t.Fatalf("a page of %d bytes is laid as one of %d", page, len(want))
			}
			wantBytes(t, device(page), f, want, api.OK)
		}
	}
}

func TestP801BytesOfAAndB(t *testing.T) {
	for _, a := range numbers() {
		for _, b := range numbers() {
			f := of(api.KindSeal, a, b, "body")
			wantBytes(t, device(40), f, plain(40, f), api.OK)
		}
	}
}

// TestP801BytesOfEachPageAndBody goes over all sizes of a page, and of each over all sizes of a Body.
func TestP801BytesOfEachPageAndBody(t *testing.T) {
	for page := 32; page <= 128; page++ {
		for n := range page - 14 {
			f := of(api.KindPart, uint32(page), uint32(n), made(n, n))
			wantBytes(t, device(page), f, plain(page, f), api.OK)
		}
		for _, n := range []int{page - 14, page - 13, page, 2 * page, 255, 256, 257, 65535, 65536, 65537} {
			wantBytes(t, device(page), of(api.KindPart, 1, 0, fill('x', n)), "", api.ErrLong)
		}
	}
}

// TestP801BytesHangsOnThePageAlone: how many pages and regions there are is not to be seen.
func TestP801BytesHangsOnThePageAlone(t *testing.T) {
	f := of(api.KindPart, 1, 2, "ab")
	for pages := 3; pages <= 10; pages++ {
		for regions := 4; regions <= 12; regions++ {
			wantBytes(t, api.Geom{Page: 50, Pages: pages, Regions: regions}, f, plain(50, f), api.OK)
		}
	}
}

// wrongDevices are wrong in one size, or in all.
func wrongDevices() []api.Geom {
	l := []api.Geom{{}, {Page: 31, Pages: 2, Regions: 3}, {Page: 129, Pages: 11, Regions: 13}, {Page: -32, Pages: -3, Regions: -4}}
	for _, n := range []int{31, 129, 0, -1, math.MinInt, math.MaxInt} {
		l = append(l, api.Geom{Page: n, Pages: 3, Regions: 4})
	}
	for _, n := range []int{2, 11, 0, -1, math.MinInt, math.MaxInt} {
		l = append(l, api.Geom{Page: 32, Pages: n, Regions: 4})
	}
	for _, n := range []int{3, 13, 0, -1, math.MinInt, math.MaxInt} {
		l = append(l, api.Geom{Page: 32, Pages: 3, Regions: n})
	}
	return l
}

// wrongKinds are none of a frame; a byte of some of them is.
func wrongKinds() []int {
	return []int{0, -1, -2, -3, -4, 5, 6, 127, 128, 254, 255, 256, 257, 258, 260, -252, -255, 1 << 16, 1<<16 + 1, math.MaxInt32, math.MinInt32, math.MinInt, math.MinInt + 1, math.MaxInt, math.MaxInt - 254}
}

func TestP801BytesRefusesTheGeomFirst(t *testing.T) {
	for _, g := range wrongDevices() {
		for _, kind := range append(wrongKinds(), 1, 2, 3, 4) {
			for _, n := range []int{0, 2, 17, 18, 113, 114, 5000} {
				wantBytes(t, g, of(kind, 1, 2, fill('x', n)), "", api.ErrArg)
			}
		}
	}
}

func TestP801BytesRefusesTheKindNext(t *testing.T) {
	for _, page := range pageSizes() {
		for _, kind := range wrongKinds() {
			for _, n := range []int{0, 2, page - 15, page - 14, 5000} {
				wantBytes(t, device(page), of(kind, 1, 2, fill('x', n)), "", api.ErrForm)
			}
		}
		for kind := 1; kind <= 4; kind++ {
			wantBytes(t, device(page), of(kind, 0, 0, ""), plain(page, of(kind, 0, 0, "")), api.OK)
			wantBytes(t, device(page), of(kind, 0, 0, fill(0, page-14)), "", api.ErrLong)
		}
	}
}

func TestP802ReadOfFrames(t *testing.T) {
	for _, page := range pageSizes() {
		for _, f := range frames(page) {
			wantRead(t, plain(page, f), f, api.OK)
		}
	}
	for _, a := range numbers() {
		for _, b := range numbers() {
			f := of(api.KindFloor, a, b, "body")
			wantRead(t, plain(41, f), f, api.OK)
		}
	}
}

// TestP802ReadIsBytesBack holds the two calls against each other, over all sizes of a page and of a Body.
func TestP802ReadIsBytesBack(t *testing.T) {
	for page := 32; page <= 128; page++ {
		for n := range page - 14 {
			f := of(1+n%4, uint32(n)*0x01000193, uint32(page)*0x02000401, made(n, page))
			b, code := Bytes(device(page), f)
			if code != api.OK {
				t.Fatalf("Bytes of %+v, page %d: %d", f, page, code)
			}
			wantRead(t, b, f, api.OK)
		}
	}
}

// TestP802ReadOfTheEdgesOfAPage has texts that would be frames, were there pages of so many bytes.
func TestP802ReadOfTheEdgesOfAPage(t *testing.T) {
	f := of(api.KindPart, 1, 2, "ab")
	for n := 17; n <= 300; n++ {
		if n < 32 || n > 128 {
			wantRefused(t, plain(n, f), api.ErrArg)
		} else {
			wantRead(t, plain(n, f), f, api.OK)
		}
	}
}

func TestP802ReadRefusesTheLengthFirst(t *testing.T) {
	lengths := []int{129, 130, 256, 288, 384, 5000}
	for n := range 32 {
		lengths = append(lengths, n)
	}
	for _, n := range lengths {
		for _, b := range []string{fill(255, n), fill(0, n), fill('a', n), made(n, n)} {
			wantRefused(t, b, api.ErrArg)
		}
	}
	page := plain(32, of(api.KindPart, 1, 2, "ab"))
	for n := range 32 {
		wantRefused(t, page[:n], api.ErrArg)
		wantRefused(t, page[n+1:], api.ErrArg)
	}
	long := plain(128, of(api.KindPart, 1, 2, "ab"))
	wantRefused(t, long+"\x00", api.ErrArg)
	wantRefused(t, "\x00"+long, api.ErrArg)
}

func TestP802ReadOfABlankPage(t *testing.T) {
	for n := 32; n <= 128; n++ {
		blank := fill(255, n)
		wantRefused(t, blank, api.ErrNone)
		for at := range n {
			wantRefused(t, with(blank, at, 1), api.ErrSum)
			wantRefused(t, with(blank, at, 255), api.ErrSum)
		}
		// All is 255 but the sum, which is right.
		wantRefused(t, sealed(blank[:n-4]), api.ErrForm)
	}
}

func TestP802ReadOfOneByteTurned(t *testing.T) {
	for _, page := range pageSizes() {
		for _, f := range []api.Frame{of(1, 1, 2, ""), of(2, 7, 1<<24, "ab"), of(3, 5, 6, made(page-15, 3)), of(4, math.MaxUint32, math.MaxUint32, fill(255, page-15))} {
			b := plain(page, f)
			for at := range page {
				for x := 1; x < 256; x++ {
					wantRefused(t, with(b, at, byte(x)), api.ErrSum)
				}
			}
		}
	}
}

// TestP802ReadOfAWrongSum: what else is wrong is not told.
func TestP802ReadOfAWrongSum(t *testing.T) {
	for _, n := range pageSizes() {
		wantRefused(t, fill(0, n), api.ErrSum)
		wantRefused(t, made(n, 1), api.ErrSum)
		for _, b := range []string{laid(n, 0, 1, 2, 2, "ab"), laid(n, 5, 1, 2, 2, "ab"), laid(n, 2, 1, 2, n-14, "ab"), laid(n, 2, 1, 2, 65535, "ab"), laid(n, 2, 1, 2, 1, "ab")} {
			wantRefused(t, b, api.ErrForm)
			for at := n - 4; at < n; at++ {
				wantRefused(t, with(b, at, 1), api.ErrSum)
			}
		}
		b := plain(n, of(2, 1, 2, "ab"))
		mirrored := []byte(b[n-4:])
		slices.Reverse(mirrored)
		wantRefused(t, b[:n-4]+string(mirrored), api.ErrSum)
		wantRefused(t, b[:n-4]+fill(255, 4), api.ErrSum)
		wantRefused(t, b[:n-4]+fill(0, 4), api.ErrSum)
	}
}

func TestP802ReadOfEachKind(t *testing.T) {
	for _, page := range pageSizes() {
		for kind := range 256 {
			for _, body := range []string{"", "ab", fill(0, page-15)} {
				f := of(kind, 1, 2, body)
				if 1 <= kind && kind <= 4 {
					wantRead(t, plain(page, f), f, api.OK)
				} else {
					wantRefused(t, plain(page, f), api.ErrForm)
				}
			}
		}
	}
}

// TestP802ReadOfEachSize has behind the size bytes of which none is nought, or noughts alone, or one byte at any place.
func TestP802ReadOfEachSize(t *testing.T) {
	for _, page := range []int{32, 77, 128} {
		room := page - 15
		full, empty := fill('x', room), fill(0, room)
		for size := range 1 << 16 {
			if size > room {
				wantRefused(t, laid(page, 2, 1, 2, size, full), api.ErrForm)
				wantRefused(t, laid(page, 2, 1, 2, size, empty), api.ErrForm)
				continue
			}
			wantRead(t, laid(page, 2, 1, 2, size, empty), of(2, 1, 2, empty[:size]), api.OK)
			for at := range room {
				one := with(empty, at, 1)
				if at < size {
					wantRead(t, laid(page, 2, 1, 2, size, one), of(2, 1, 2, one[:size]), api.OK)
				} else {
					wantRefused(t, laid(page, 2, 1, 2, size, one), api.ErrForm)
				}
			}
		}
		wantRead(t, laid(page, 2, 1, 2, room, full), of(2, 1, 2, full), api.OK)
		wantRefused(t, laid(page, 2, 1, 2, room-1, full), api.ErrForm)
	}
}

// TestP802ReadOfAByteTurnedAndResealed: A, B and the Body may be any; what stands elsewhere may not.
func TestP802ReadOfAByteTurnedAndResealed(t *testing.T) {
	b := plain(48, of(2, 0x04030201, 0x08070605, "body"))
	wantRefused(t, resealed(b, 0, 128), api.ErrForm)
	wantRead(t, resealed(b, 0, 2^3), of(3, 0x04030201, 0x08070605, "body"), api.OK)
	wantRead(t, resealed(b, 1, 255), of(2, 0x040302fe, 0x08070605, "body"), api.OK)
	wantRead(t, resealed(b, 4, 255), of(2, 0xfb030201, 0x08070605, "body"), api.OK)
	wantRead(t, resealed(b, 5, 255), of(2, 0x04030201, 0x080706fa, "body"), api.OK)
	wantRead(t, resealed(b, 8, 255), of(2, 0x04030201, 0xf7070605, "body"), api.OK)
	wantRead(t, resealed(b, 9, 4^5), of(2, 0x04030201, 0x08070605, "body\x00"), api.OK)
	wantRefused(t, resealed(b, 9, 4^3), api.ErrForm)
	wantRefused(t, resealed(b, 10, 1), api.ErrForm)
	wantRead(t, resealed(b, 14, 'y'), of(2, 0x04030201, 0x08070605, "bod\x00"), api.OK)
	for at := 15; at < 44; at++ {
		for x := 1; x < 256; x++ {
			wantRefused(t, resealed(b, at, byte(x)), api.ErrForm)
		}
	}
}

// TestP802ReadIsWhatBytesWouldTell reads many pages, with right sums, and asks of each whether Bytes tells it of what
// was read; of one that was refused, whether no frame that its bytes might say is told so.
func TestP802ReadIsWhatBytesWouldTell(t *testing.T) {
	right := 0
	for round := range 60000 {
		page := 32 + round%97
		raw := []byte(made(page-4, round))
		if round%2 == 0 {
			raw[0] %= 6
		}
		if round%3 > 0 {
			raw[9], raw[10] = raw[9]%byte(page), 0
		}
		if round%5 > 0 {
			clear(raw[min(11+int(raw[9]), len(raw)):])
		}
		b := sealed(string(raw))
		f, code := Read(b)
		if code == api.OK {
			right++
			wantBytes(t, device(page), f, b, api.OK)
			continue
		}
		if f != (api.Frame{}) || code != api.ErrForm {
			t.Errorf("Read(%q): %+v %d", b, f, code)
		}
		for n := range page - 14 {
			f := of(int(raw[0]), binary.LittleEndian.Uint32(raw[1:]), binary.LittleEndian.Uint32(raw[5:]), string(raw[11:11+n]))
			if told, code := Bytes(device(page), f); code == api.OK && told == b {
				t.Fatalf("Read(%q) is refused, and Bytes tells it of %+v", b, f)
			}
		}
	}
	if right < 5000 || right > 55000 {
		t.Errorf("%d pages of 60000 were right: too few of one sort", right)
	}
}

// TestP802ReadTwiceIsTheSame: no call hangs on those ahead of it.
func TestP802ReadTwiceIsTheSame(t *testing.T) {
	f := of(api.KindPart, 7, 1<<24, "ab")
	b := plain(32, f)
	for _, other := range []string{fill(255, 32), with(b, 3, 1), "", resealed(b, 0, 128)} {
		Read(other)
		Bytes(device(32), of(0, 1, 2, "x"))
		wantRead(t, b, f, api.OK)
		wantBytes(t, device(32), f, b, api.OK)
	}
}
