package crc

import (
	"hash/crc32"
	"math"
	"math/bits"
	"strings"
	"testing"
)

// texts are ordinary ones and edges: none, noughts, all digits set, every byte, bytes that are no UTF-8.
func texts() []string {
	var every []byte
	for i := range 256 {
		every = append(every, byte(i))
	}
	return []string{
		"", "\x00", "\x00\x00", "\xff", "\xff\xff\xff\xff", "a", "abc", "123456789",
		"äöü€", "\xc3\x28\x80", string(every), strings.Repeat("\x00", 128), strings.Repeat("\xff", 128), strings.Repeat("page", 100),
	}
}

// TestP101StepTable holds Step against all of the library's table: the digits above the lowest eight go down by eight.
func TestP101StepTable(t *testing.T) {
	for _, c := range []uint32{0, 1, 255, 256, 0x12345678, 0x80000000, 0xEDB88320, math.MaxUint32} {
		for b := range 256 {
			want := crc32.IEEETable[byte(c)^byte(b)] ^ c>>8
			if got := Step(c, byte(b)); got != want {
				t.Errorf("Step(%#x, %#x): %#x, not %#x", c, b, got, want)
			}
		}
	}
}

func TestP101StepKnown(t *testing.T) {
	for _, x := range []struct {
		c    uint32
		b    byte
		want uint32
	}{
		{0, 0, 0}, {1, 1, 0}, {256, 0, 1}, {0, 1, 0x77073096}, {0, 128, 0xEDB88320}, {math.MaxUint32, 0, 0x2DFD1072},
	} {
		if got := Step(x.c, x.b); got != x.want {
			t.Errorf("Step(%#x, %#x): %#x, not %#x", x.c, x.b, got, x.want)
		}
	}
}

func TestP101SumKnown(t *testing.T) {
	for _, x := range []struct {
		l    []string
		want uint32
	}{
		{nil, 0},
		{[]string{}, 0},
		{[]string{""}, 0},
		{[]string{"", "", ""}, 0},
		{[]string{"123456789"}, 0xCBF43926},
		{[]string{"1234", "", "56789"}, 0xCBF43926},
		{[]string{"", "123456789", ""}, 0xCBF43926},
		{[]string{"1", "2", "3", "4", "5", "6", "7", "8", "9"}, 0xCBF43926},
		{[]string{"a"}, 0xE8B7BE43},
		{[]string{"\x00"}, 0xD202EF8D},
		{[]string{"\xff\xff\xff\xff"}, 0xFFFFFFFF},
	} {
		if got := Sum(x.l...); got != x.want {
			t.Errorf("Sum(%q): %#x, not %#x", x.l, got, x.want)
		}
	}
}

func TestP101SumIsIEEE(t *testing.T) {
	for _, s := range texts() {
		if got, want := Sum(s), crc32.ChecksumIEEE([]byte(s)); got != want {
			t.Errorf("Sum(%q): %#x, not %#x", s, got, want)
		}
	}
}

func TestP101SumOfSeveralIsOfOneBehindTheOther(t *testing.T) {
	if got, want := Sum(texts()...), Sum(strings.Join(texts(), "")); got != want {
		t.Errorf("Sum of all: %#x, not %#x", got, want)
	}
	for _, s := range texts() {
		for cut := range len(s) + 1 {
			if got, want := Sum(s[:cut], s[cut:]), Sum(s); got != want {
				t.Errorf("Sum(%q, %q): %#x, not %#x", s[:cut], s[cut:], got, want)
			}
		}
	}
	if Sum("ab", "c") == Sum("c", "ab") {
		t.Error("Sum does not heed the order of its texts")
	}
}

func TestP101SumLeavesItsListAlone(t *testing.T) {
	l := []string{"a", "", "b"}
	first := Sum(l...)
	if l[0] != "a" || l[1] != "" || l[2] != "b" {
		t.Errorf("the list became %q", l)
	}
	if again := Sum(l...); again != first {
		t.Errorf("Sum again: %#x, not %#x", again, first)
	}
}

// numbers are edges, and one with four unlike bytes.
func numbers() []uint32 {
	l := []uint32{0, 0x04030201, 0xCBF43926, math.MaxUint32}
	for i := range 32 {
		l = append(l, 1<<i, 1<<i-1)
	}
	return l
}

func TestP102PutLowestFirst(t *testing.T) {
	for _, x := range []struct {
		c    uint32
		want string
	}{
		{0, "\x00\x00\x00\x00"},
		{1, "\x01\x00\x00\x00"},
		{0x04030201, "\x01\x02\x03\x04"},
		{0xCBF43926, "\x26\x39\xf4\xcb"},
		{math.MaxInt32, "\xff\xff\xff\x7f"},
		{math.MaxUint32, "\xff\xff\xff\xff"},
	} {
		if got := Put(x.c); got != x.want {
			t.Errorf("Put(%#x): %q, not %q", x.c, got, x.want)
		}
	}
}

func TestP102GetIsPutBack(t *testing.T) {
	for _, c := range numbers() {
		for _, ahead := range []string{"", "x", "\xff\xff\xff\xff", "ahead"} {
			for _, behind := range []string{"", "y", "\xff\xff\xff\xff"} {
				b := ahead + Put(c) + behind
				if got, ok := Get(b, len(ahead)); got != c || !ok {
					t.Errorf("Get(%q, %d): %#x %v, not %#x true", b, len(ahead), got, ok, c)
				}
			}
		}
	}
}

func TestP102GetRefuses(t *testing.T) {
	places := []int{math.MinInt, math.MinInt + 1, math.MinInt32, -5, -4, -3, -2, -1, math.MaxInt32, math.MaxInt - 4, math.MaxInt - 3, math.MaxInt - 1, math.MaxInt}
	for size := range 9 {
		b := strings.Repeat("\xff", size)
		wrong := append([]int{}, places...)
		for at := max(0, size-3); at <= size+5; at++ {
			wrong = append(wrong, at)
		}
		for _, at := range wrong {
			if got, ok := Get(b, at); got != 0 || ok {
				t.Errorf("Get of %d bytes at %d: %#x %v, not 0 false", size, at, got, ok)
			}
		}
		for at := 0; at+4 <= size; at++ {
			if got, ok := Get(b, at); got != math.MaxUint32 || !ok {
				t.Errorf("Get of %d bytes at %d: %#x %v, not all digits set, true", size, at, got, ok)
			}
		}
	}
}

// turned is s with the digits of mask turned from the binary digit first on, each byte's lowest digit counted first.
func turned(s string, first int, mask uint32) string {
	b := []byte(s)
	for i := range 32 {
		if mask>>i&1 == 1 {
			b[(first+i)/8] ^= 1 << ((first + i) % 8)
		}
	}
	return string(b)
}

// TestP103NoBurstIsHidden looks at all 2 to the 32nd less 1 ways to turn digits of a window at once. Turning
// several digits changes the Sum by the XOR of what each of them changes alone, so none of the ways leaves the Sum
// as it was exactly if none of these changes is an XOR of others: if none of them reduces to nought.
func TestP103NoBurstIsHidden(t *testing.T) {
	for _, s := range []string{"a", "\xff\x00", "abc", "abcd", strings.Repeat("\x00", 32), strings.Repeat("\xff", 32), "a page has as many bytes as this", strings.Repeat("page", 32)} {
		wide := min(32, len(s)*8)
		for first := 0; first+wide <= len(s)*8; first++ {
			if n := independent(changes(s, first, wide)); n != wide {
				t.Errorf("%q from digit %d on: %d of %d changes are independent", s, first, n, wide)
			}
		}
	}
}

// changes tells by what the Sum of s is changed by each of so many digits from first on alone.
func changes(s string, first, wide int) []uint32 {
	var l []uint32
	for i := range wide {
		l = append(l, Sum(s)^Sum(turned(s, first, 1<<i)))
	}
	return l
}

// independent tells how many of l are left when each is reduced by the ones ahead of it.
func independent(l []uint32) int {
	var byTop [33]uint32
	n := 0
	for _, x := range l {
		for x != 0 && byTop[bits.Len32(x)] != 0 {
			x ^= byTop[bits.Len32(x)]
		}
		if x != 0 {
			byTop[bits.Len32(x)] = x
			n++
		}
	}
	return n
}

// TestP103BurstsAddUp holds what TestP103NoBurstIsHidden leans on, and the promise itself, on many masks.
func TestP103BurstsAddUp(t *testing.T) {
	s := strings.Repeat("page", 8)
	mask := uint32(1)
	for round := range 4000 {
		mask = mask*1664525 + 1013904223
		if mask == 0 {
			continue
		}
		first := round % (len(s)*8 - 31)
		got := Sum(s) ^ Sum(turned(s, first, mask))
		if got == 0 {
			t.Errorf("digits %#x from %d on turned: the same Sum", mask, first)
		}
		want := uint32(0)
		for i, c := range changes(s, first, 32) {
			if mask>>i&1 == 1 {
				want ^= c
			}
		}
		if got != want {
			t.Errorf("digits %#x from %d on turned: changed by %#x, not %#x", mask, first, got, want)
		}
	}
}
