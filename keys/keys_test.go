package keys

import (
	"math"
	"slices"
	"strings"
	"testing"
	"unicode/utf8"

	"cachepot/api"
)

// alphabet has whole runes of one byte, and bytes that are UTF-8 only together: of é, 世, U+FFFD, and of none.
const alphabet = "ab \x00\x7f\xc3\xa9\xe4\xb8\x96\xef\xbf\xbd\xff"

// textsUpTo are all texts of at most n bytes of the alphabet.
func textsUpTo(n int) []string {
	out, last := []string{""}, []string{""}
	for range n {
		var next []string
		for _, s := range last {
			for i := range len(alphabet) {
				next = append(next, s+alphabet[i:i+1])
			}
		}
		out, last = append(out, next...), next
	}
	return out
}

// unlikeTexts are ordinary texts, edges, and some that differ in bytes and not in runes.
func unlikeTexts() []string {
	return append(textsUpTo(2),
		"abc", "abd", "key", "keys", "é", "è", "éa", "世界", "世", "世\xff", "世\ufffd", "\ufffd", "\ufffda", "\xffa", "\xfea",
		"\ufffd\xff", "\xff\ufffd", "\xff\xff", "\ufffd\ufffd", "\uffff", "\U00010000", "\U0010ffff", "\U0001f600",
		"\xe4\xb8", "\xed\xa0\x80", "\xc0\x80", "\xf4\x90\x80\x80", strings.Repeat("é", 13), strings.Repeat("a", 300))
}

// wantRight says by the runes, numbers all, whether k is a key.
func wantRight(k string) bool {
	l := []rune(k)
	if len(l) < 1 || len(l) > 12 || !utf8.ValidString(k) {
		return false
	}
	return !slices.ContainsFunc(l, func(r rune) bool { return r <= 0x20 || 0x7f <= r && r <= 0xa0 })
}

func TestP201RightOfEachRune(t *testing.T) {
	for r := rune(0); r <= utf8.MaxRune; r++ {
		if !utf8.ValidRune(r) {
			continue
		}
		want := r >= 0x21 && r <= 0x7e || r >= 0xa1
		if Right(string(r)) != want {
			t.Errorf("Right(%U): not %v", r, want)
		}
	}
}

func TestP201RightOfAWrongRuneAnywhere(t *testing.T) {
	for _, bad := range []string{" ", "\x00", "\n", "\x1f", "\x7f", "\u0080", "\u00a0", "\xff", "\x80", "\xc3", "\xe4\xb8", "\xed\xa0\x80", "\xc0\x80", "\xf4\x90\x80\x80"} {
		for _, k := range []string{bad, bad + "a", "a" + bad, "a" + bad + "b", "\ufffd" + bad, bad + "\ufffd", strings.Repeat("a", 11) + bad} {
			if Right(k) {
				t.Errorf("Right(%q): true", k)
			}
		}
	}
	for _, k := range []string{"a!b", "a~b", "a\u00a1b", "a\ufffdb", "\ufffd\ufffd", "a\U0010ffffb", "世界é"} {
		if !Right(k) {
			t.Errorf("Right(%q): false", k)
		}
	}
}

func TestP201RightCountsRunesNotBytes(t *testing.T) {
	if Right("") {
		t.Error("no text is a key")
	}
	for _, r := range []string{"a", "é", "世", "\ufffd", "\U0001f600"} {
		for n := 1; n <= 2*api.MaxKey; n++ {
			if k := strings.Repeat(r, n); Right(k) != (n <= 12) {
				t.Errorf("Right of %d times %q: %v", n, r, Right(k))
			}
		}
	}
}

func TestP201Right(t *testing.T) {
	for _, k := range append(textsUpTo(4), unlikeTexts()...) {
		if want := wantRight(k); Right(k) != want {
			t.Errorf("Right(%q): not %v", k, want)
		}
	}
}

func TestP201CountKnown(t *testing.T) {
	for _, x := range []struct {
		k    string
		want int
	}{
		{"", 0}, {"a", 1}, {"a b", 3}, {"éa", 2}, {"\xc3", 1}, {"\xff\xfe", 2}, {"\xe4\xb8", 2}, {"\xe4\xb8\x96", 1}, {"\xe4\xb8a", 3},
		{"\ufffd", 1}, {"\xed\xa0\x80", 3}, {"\xc0\x80", 2}, {"\xf4\x90\x80\x80", 4}, {"\U0010ffff", 1}, {strings.Repeat("é", 100), 100},
	} {
		if got := Count(x.k); got != x.want {
			t.Errorf("Count(%q): %d, not %d", x.k, got, x.want)
		}
	}
}

func TestP201Count(t *testing.T) {
	for _, k := range append(textsUpTo(4), unlikeTexts()...) {
		if got, want := Count(k), len([]rune(k)); got != want {
			t.Errorf("Count(%q): %d, not %d", k, got, want)
		}
	}
}

func TestP201HeadKnown(t *testing.T) {
	for _, x := range []struct {
		k    string
		n    int
		want string
	}{
		{"éa", 1, "é"}, {"éa", 2, "éa"}, {"éa", 3, "éa"}, {"éa", 0, ""}, {"éa", -1, ""},
		{"éa", math.MinInt, ""}, {"éa", math.MaxInt, "éa"},
		{"", 0, ""}, {"", 1, ""}, {"", -1, ""}, {"", math.MaxInt, ""},
		{"\xffé", 1, "\xff"}, {"\xffé", 2, "\xffé"}, {"\xe4\xb8", 1, "\xe4"}, {"\xe4\xb8\x96\xff", 1, "世"}, {"a\x80b", 2, "a\x80"}, {"\ufffdb", 1, "\ufffd"},
	} {
		if got := Head(x.k, x.n); got != x.want {
			t.Errorf("Head(%q, %d): %q, not %q", x.k, x.n, got, x.want)
		}
	}
}

// TestP201Head: a head is the start of the text, and has as many of its runes as were asked for.
func TestP201Head(t *testing.T) {
	for _, k := range append(textsUpTo(3), unlikeTexts()...) {
		all := []rune(k)
		for n := -2; n <= len(all)+2; n++ {
			got, want := Head(k, n), all[:min(max(n, 0), len(all))]
			if !strings.HasPrefix(k, got) || !slices.Equal([]rune(got), want) {
				t.Errorf("Head(%q, %d): %q", k, n, got)
			}
		}
		if Head(k, len(all)) != k {
			t.Errorf("Head(%q, %d): not all of it", k, len(all))
		}
	}
}

func TestP202CommonKnown(t *testing.T) {
	for _, x := range []struct {
		a, b string
		want int
	}{
		{"", "", 0}, {"", "a", 0}, {"a", "a", 1}, {"abc", "abd", 2}, {"ab", "abc", 2}, {"xab", "yab", 0}, {"axb", "ayb", 1},
		{"é", "è", 0}, {"éa", "éb", 1}, {"世界", "世人", 1}, {"世", "\xe4\xb8", 0},
		{"\xff", "\ufffd", 1}, {"\xff", "\xfe", 1}, {"\xffa", "\ufffda", 2}, {"\xffab", "\ufffdac", 2}, {"\xe4\xb8", "\ufffd\ufffd", 2}, {"\xe4\xb8", "\ufffd", 1},
	} {
		if got, back := Common(x.a, x.b), Common(x.b, x.a); got != x.want || back != x.want {
			t.Errorf("Common(%q, %q): %d, turned round %d, not %d", x.a, x.b, got, back, x.want)
		}
	}
}

func TestP202CmpKnown(t *testing.T) {
	for _, x := range []struct {
		a, b string
		want int
	}{
		{"", "", 0}, {"", "a", -1}, {"", "\x00", -1}, {"a", "a", 0}, {"a", "ab", -1}, {"a", "b", -1}, {"ab", "b", -1}, {"abc", "abd", -1}, {"ba", "c", -1},
		{"Z", "a", -1}, {"z", "é", -1}, {"è", "é", -1}, {"é", "世", -1}, {"世", "世a", -1}, {"é", "\xff", -1}, {"世", "\xe4\xb8", -1},
		{"\uffff", "\U00010000", -1}, {"\xff", "\U00010000", -1}, {"\xff", "\ufffe", -1},
		{"\xff", "\ufffd", 0}, {"\xff", "\xfe", 0}, {"\x80\xffa", "\ufffd\ufffda", 0}, {"\xff", "\ufffda", -1}, {"\xffa", "\ufffdb", -1}, {"\ufffda", "\xffb", -1}, {"\ufffd", "\xe4\xb8", -1},
	} {
		if got, back := Cmp(x.a, x.b), Cmp(x.b, x.a); got != x.want || back != -x.want {
			t.Errorf("Cmp(%q, %q): %d, turned round %d, not %d", x.a, x.b, got, back, x.want)
		}
	}
}

// TestP202AllPairs holds both calls against the runes as lists.
func TestP202AllPairs(t *testing.T) {
	l := unlikeTexts()
	for _, a := range l {
		for _, b := range l {
			x, y := []rune(a), []rune(b)
			if got, want := Cmp(a, b), slices.Compare(x, y); got != want {
				t.Errorf("Cmp(%q, %q): %d, not %d", a, b, got, want)
			}
			want := 0
			for want < min(len(x), len(y)) && x[want] == y[want] {
				want++
			}
			if got := Common(a, b); got != want {
				t.Errorf("Common(%q, %q): %d, not %d", a, b, got, want)
			}
		}
	}
}

func TestP202SortedKnown(t *testing.T) {
	for _, x := range []struct{ l, want []string }{
		{nil, nil},
		{[]string{}, nil},
		{[]string{""}, []string{""}},
		{[]string{"x", "x"}, []string{"x"}},
		{[]string{"b", "a", "b", "", "a"}, []string{"", "a", "b"}},
		{[]string{"世", "é", "z", "Z", "ab", "a", "\U00010000", "\uffff"}, []string{"Z", "a", "ab", "z", "é", "世", "\uffff", "\U00010000"}},
		{[]string{"\xff", "\xfe", "\ufffd", "\xff", "\ufffd"}, []string{"\ufffd", "\xfe", "\xff"}},
		{[]string{"\xffa", "\ufffdb", "\ufffda", "\x80b", "\x80a"}, []string{"\x80a", "\ufffda", "\xffa", "\x80b", "\ufffdb"}},
		{[]string{"\U00010000", "\xff"}, []string{"\xff", "\U00010000"}},
	} {
		if got := Sorted(x.l); !slices.Equal(got, x.want) {
			t.Errorf("Sorted(%q): %q, not %q", x.l, got, x.want)
		}
	}
}

// TestP202Sorted: whatever order a list comes in, with each text twice, it is told in the one order, each text once.
func TestP202Sorted(t *testing.T) {
	once := unlikeTexts()
	slices.Sort(once)
	once = slices.Compact(once)
	slices.Reverse(once)
	got := Sorted(slices.Concat(once, once))
	if len(got) != len(once) {
		t.Fatalf("%d texts, not %d", len(got), len(once))
	}
	for i := 1; i < len(got); i++ {
		a, b := got[i-1], got[i]
		if c := slices.Compare([]rune(a), []rune(b)); c > 0 || c == 0 && a >= b {
			t.Errorf("%q stands ahead of %q", a, b)
		}
	}
	for _, k := range once {
		if !slices.Contains(got, k) {
			t.Errorf("%q is missing", k)
		}
	}
	slices.Reverse(once)
	if !slices.Equal(Sorted(once), got) {
		t.Error("another order of the same texts is told otherwise")
	}
}

func TestP202SortedIsNewAndChangesNothing(t *testing.T) {
	for _, in := range [][]string{{"b", "a", "b"}, {"a", "b", "c"}} {
		kept := slices.Clone(in)
		first := Sorted(in)
		if !slices.Equal(in, kept) {
			t.Errorf("Sorted has changed what it was handed: %q", in)
		}
		want := slices.Clone(first)
		in[0] = "z"
		if !slices.Equal(first, want) {
			t.Errorf("what was handed in is shared: %q", first)
		}
		first[0] = "y"
		if !slices.Equal(Sorted(kept), want) || !slices.Equal(in[1:], kept[1:]) {
			t.Errorf("what was answered is shared: %q", first)
		}
	}
}
