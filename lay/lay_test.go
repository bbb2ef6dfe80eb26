package lay

import (
	"encoding/binary"
	"math"
	"strings"
	"testing"

	"cachepot/api"
)

// numbers are the edges of how many bytes there are, and some between.
func numbers() []uint32 {
	l := []uint32{0, 1, 2, 15, 16, 126, 127, 128, 129, 255, 256, 300, 16383, 16384, 1<<21 - 1, 1 << 21, 1<<28 - 1, 1 << 28, api.MaxSeq, math.MaxUint32 - 1, math.MaxUint32}
	for i := range 32 {
		l = append(l, 1<<i-1, 1<<i, 1<<i+1)
	}
	x := uint32(1)
	for range 2000 {
		x = x*1664525 + 1013904223
		l = append(l, x, x>>(x%29))
	}
	return l
}

// wrongPlaces are those that a text of so many bytes has not.
func wrongPlaces(size int) []int {
	return []int{math.MinInt, math.MinInt + 1, math.MinInt32, -2, -1, size + 1, size + 2, math.MaxInt32, math.MaxInt - 1, math.MaxInt}
}

func wantNum(t *testing.T, b string, at int, v uint32, to int, code api.Code) {
	t.Helper()
	gotV, gotTo, gotCode := GetNum(b, at)
	if gotV != v || gotTo != to || gotCode != code {
		t.Errorf("GetNum(%q, %d): %d %d %d, not %d %d %d", b, at, gotV, gotTo, gotCode, v, to, code)
	}
}

func wantText(t *testing.T, b string, at, most int, s string, to int, code api.Code) {
	t.Helper()
	gotS, gotTo, gotCode := GetText(b, at, most)
	if gotS != s || gotTo != to || gotCode != code {
		t.Errorf("GetText(%q, %d, %d): %q %d %d, not %q %d %d", b, at, most, gotS, gotTo, gotCode, s, to, code)
	}
}

func TestP401NumKnown(t *testing.T) {
	for _, x := range []struct {
		v    uint32
		want string
	}{
		{0, "\x00"}, {1, "\x01"}, {127, "\x7f"}, {128, "\x80\x01"}, {255, "\xff\x01"}, {300, "\xac\x02"}, {16383, "\xff\x7f"}, {16384, "\x80\x80\x01"},
		{1<<21 - 1, "\xff\xff\x7f"}, {1 << 21, "\x80\x80\x80\x01"}, {1<<28 - 1, "\xff\xff\xff\x7f"}, {1 << 28, "\x80\x80\x80\x80\x01"},
		{1 << 31, "\x80\x80\x80\x80\x08"}, {math.MaxInt32, "\xff\xff\xff\xff\x07"}, {math.MaxUint32, "\xff\xff\xff\xff\x0f"},
	} {
		if got := Num(x.v); got != x.want {
			t.Errorf("Num(%d): %q, not %q", x.v, got, x.want)
		}
	}
}

func TestP401Num(t *testing.T) {
	for _, v := range numbers() {
		if got, want := Num(v), string(binary.AppendUvarint(nil, uint64(v))); got != want {
			t.Errorf("Num(%d): %q, not %q", v, got, want)
		}
	}
}

// TestP401GetNumIsNumBack: wherever it stands, whatever stands around it.
func TestP401GetNumIsNumBack(t *testing.T) {
	for _, v := range numbers() {
		for _, ahead := range []string{"", "\x00", "\x80", "\xff\xff\xff\xff\xff", "ahead"} {
			for _, behind := range []string{"", "\x00", "\x80", "\xff\xff\xff\xff\xff", "behind"} {
				wantNum(t, ahead+Num(v)+behind, len(ahead), v, len(ahead)+len(Num(v)), api.OK)
			}
		}
	}
}

func TestP401GetNumCutOff(t *testing.T) {
	for _, v := range numbers() {
		for cut := range len(Num(v)) {
			wantNum(t, Num(v)[:cut], 0, 0, 0, api.ErrShort)
			wantNum(t, "x"+Num(v)[:cut], 1, 0, 0, api.ErrShort)
		}
	}
}

func TestP401GetNumOfAPlaceThatIsNone(t *testing.T) {
	for _, b := range []string{"", "\x00", "a", "\x80\x00", "\xff\xff\xff\xff\x10", "\x01\x02\x03"} {
		for _, at := range wrongPlaces(len(b)) {
			wantNum(t, b, at, 0, 0, api.ErrArg)
		}
		wantNum(t, b, len(b), 0, 0, api.ErrShort)
	}
}

func TestP401GetNumOfTheFifthByte(t *testing.T) {
	for _, first := range []string{"\x80\x80\x80\x80", "\xff\xff\xff\xff", "\x81\x80\x80\xff"} {
		wantNum(t, first, 0, 0, 0, api.ErrShort)
		wantNum(t, first+"\x01", 0, fourDigits(first)|1<<28, 5, api.OK)
		wantNum(t, first+"\x0f", 0, fourDigits(first)|15<<28, 5, api.OK)
		for c := 16; c < 256; c++ {
			wantNum(t, first+string([]byte{byte(c)}), 0, 0, 0, api.ErrForm)
			wantNum(t, first+string([]byte{byte(c)})+"\x00", 0, 0, 0, api.ErrForm)
		}
	}
	for _, c := range []string{"\x10", "\x7f"} {
		wantNum(t, "\x80\x80\x80"+c, 0, uint32(c[0])<<21, 4, api.OK)
	}
}

// fourDigits is the number of the first four bytes of b, without what says that there are more.
func fourDigits(b string) uint32 {
	return uint32(b[0]&127) + 128*uint32(b[1]&127) + 128*128*uint32(b[2]&127) + 128*128*128*uint32(b[3]&127)
}

func TestP401GetNumOfAByteThatIsNought(t *testing.T) {
	wantNum(t, "\x00", 0, 0, 1, api.OK)
	wantNum(t, "\x00\x00", 0, 0, 1, api.OK)
	wantNum(t, "\x80\x00", 1, 0, 2, api.OK)
	for _, first := range []string{"\x80", "\xff", "\x80\x80", "\xff\xff", "\x80\x80\x80", "\xff\xff\xff", "\x80\x80\x80\x80", "\xff\xff\xff\xff"} {
		wantNum(t, first+"\x00", 0, 0, 0, api.ErrForm)
		wantNum(t, first+"\x00\x01", 0, 0, 0, api.ErrForm)
		wantNum(t, "x"+first+"\x00", 1, 0, 0, api.ErrForm)
	}
}

// libraryNum is what GetNum should tell of b at 0, by the library's reading of such numbers, which are of 64 digits there,
// and may be said in several ways.
func libraryNum(b string) (uint32, int, api.Code) {
	v, n := binary.Uvarint([]byte(b))
	switch {
	case n == 0 && len(b) < 5:
		return 0, 0, api.ErrShort
	case n <= 0 || v > math.MaxUint32 || string(binary.AppendUvarint(nil, v)) != b[:n]:
		return 0, 0, api.ErrForm
	}
	return uint32(v), n, api.OK
}

func TestP401GetNumOfAnyBytes(t *testing.T) {
	for a := range 256 {
		for b := range 256 {
			s := string([]byte{byte(a), byte(b)})
			v, to, code := libraryNum(s)
			wantNum(t, s, 0, v, to, code)
		}
	}
	for _, s := range rows("\x00\x01\x0f\x10\x7f\x80\x81\xff", 6) {
		v, to, code := libraryNum(s)
		wantNum(t, s, 0, v, to, code)
	}
}

// rows are all texts of at most n of those bytes.
func rows(of string, n int) []string {
	out, last := []string{""}, []string{""}
	for range n {
		var next []string
		for _, s := range last {
			for i := range len(of) {
				next = append(next, s+of[i:i+1])
			}
		}
		out, last = append(out, next...), next
	}
	return out
}

// texts are ordinary ones and edges: none, noughts, bytes that are no UTF-8, as many as need a second and a third byte.
func texts() []string {
	return []string{
		"", "a", "ab", "\x00", "\x00\x00", "\xff", "\x80\x80", "é世\xc3", "a value",
		strings.Repeat("x", 126), strings.Repeat("x", 127), strings.Repeat("x", 128), strings.Repeat("\x80", 300),
		strings.Repeat("xy", 8191) + "z", strings.Repeat("xy", 8192),
	}
}

func TestP402TextKnown(t *testing.T) {
	for _, x := range []struct{ s, want string }{
		{"", "\x00"}, {"ab", "\x02ab"}, {"\x00", "\x01\x00"}, {"é", "\x02é"}, {"\xff", "\x01\xff"},
		{strings.Repeat("x", 127), "\x7f" + strings.Repeat("x", 127)},
		{strings.Repeat("x", 128), "\x80\x01" + strings.Repeat("x", 128)},
		{strings.Repeat("x", 300), "\xac\x02" + strings.Repeat("x", 300)},
	} {
		if got := Text(x.s); got != x.want {
			t.Errorf("Text(%q): %q, not %q", x.s, got, x.want)
		}
	}
}

// TestP402GetTextIsTextBack: wherever it stands, whatever stands around it, with each most that lets it.
func TestP402GetTextIsTextBack(t *testing.T) {
	for _, s := range texts() {
		for _, ahead := range []string{"", "\x80", "ahead"} {
			for _, behind := range []string{"", "\x00", "\xff", "behind"} {
				for _, most := range []int{len(s), len(s) + 1, math.MaxInt32, math.MaxInt} {
					b := ahead + Text(s) + behind
					wantText(t, b, len(ahead), most, s, len(b)-len(behind), api.OK)
				}
			}
		}
	}
}

func TestP402GetTextOfMoreThanMost(t *testing.T) {
	for _, s := range texts() {
		for _, most := range []int{len(s) - 1, len(s) / 2, 0, -1, -5, -len(s), math.MinInt32, math.MinInt} {
			if len(s) > max(most, 0) {
				wantText(t, Text(s), 0, most, "", 0, api.ErrLong)
				wantText(t, "x"+Text(s), 1, most, "", 0, api.ErrLong)
			} else {
				wantText(t, Text(s), 0, most, "", 1, api.OK)
			}
		}
	}
}

// TestP402GetTextCutOff: that a text is too long counts ahead of its not being all there, and behind a number cut off.
func TestP402GetTextCutOff(t *testing.T) {
	for _, s := range texts() {
		whole := Text(s)
		for cut := range min(len(whole), 400) {
			wantText(t, whole[:cut], 0, len(s), "", 0, api.ErrShort)
			wantText(t, "x"+whole[:cut], 1, math.MaxInt, "", 0, api.ErrShort)
			if s != "" && cut >= len(whole)-len(s) {
				wantText(t, whole[:cut], 0, len(s)-1, "", 0, api.ErrLong)
			} else {
				wantText(t, whole[:cut], 0, -1, "", 0, api.ErrShort)
			}
		}
		wantText(t, whole[:len(whole)-1], 0, len(s), "", 0, api.ErrShort)
	}
}

func TestP402GetTextOfTheGreatestNumber(t *testing.T) {
	for _, n := range []uint32{math.MaxInt32, math.MaxInt32 + 1, math.MaxUint32} {
		wantText(t, Num(n)+"abc", 0, math.MaxInt, "", 0, api.ErrShort)
		wantText(t, Num(n)+"abc", 0, int(n), "", 0, api.ErrShort)
		wantText(t, Num(n)+"abc", 0, int(n)-1, "", 0, api.ErrLong)
		wantText(t, Num(n)+"abc", 0, 3, "", 0, api.ErrLong)
		wantText(t, Num(n)+"abc", 0, -1, "", 0, api.ErrLong)
	}
}

func TestP402GetTextOfAPlaceThatIsNone(t *testing.T) {
	for _, b := range []string{"", "\x00", "\x01a", "\x80\x00", "\x05ab"} {
		for _, most := range []int{-1, 0, 9, math.MaxInt} {
			for _, at := range wrongPlaces(len(b)) {
				wantText(t, b, at, most, "", 0, api.ErrArg)
			}
			wantText(t, b, len(b), most, "", 0, api.ErrShort)
		}
	}
}

// TestP402GetTextOfAnyBytes: GetNum's codes come first, whatever most is; then too long; then cut off.
func TestP402GetTextOfAnyBytes(t *testing.T) {
	for _, b := range rows("\x00\x01\x02\x03\x10\x80\xff", 5) {
		n, start, code := libraryNum(b)
		for most := -1; most <= 4; most++ {
			switch {
			case code != api.OK:
				wantText(t, b, 0, most, "", 0, code)
			case int(n) > max(most, 0):
				wantText(t, b, 0, most, "", 0, api.ErrLong)
			case int(n) > len(b)-start:
				wantText(t, b, 0, most, "", 0, api.ErrShort)
			default:
				wantText(t, b, 0, most, b[start:start+int(n)], start+int(n), api.OK)
			}
		}
	}
}
