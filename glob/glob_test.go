package glob

import (
	"fmt"
	"regexp"
	"strings"
	"testing"
	"unicode/utf8"

	"cachepot/api"
)

// sequences are all rows of at most n of the given texts, one behind the other.
func sequences(n int, of ...string) []string {
	out, last := []string{""}, []string{""}
	for range n {
		var next []string
		for _, s := range last {
			for _, x := range of {
				next = append(next, s+x)
			}
		}
		out, last = append(out, next...), next
	}
	return out
}

// The grammar of patterns, as regular expressions: an end, an end that may stand first in a set, an item, a set, a pattern.
const (
	endForm     = `(?:\\.|[^\]\\-])`
	startForm   = `(?:\\.|[^\]\\^-])`
	itemForm    = endForm + `(?:-` + endForm + `)?`
	setForm     = `\[(?:\^(?:` + itemForm + `)+|` + startForm + `(?:-` + endForm + `)?(?:` + itemForm + `)*)\]`
	patternForm = `^(?s:` + setForm + `|\\.|[^\\\[])*$`
)

var (
	patternShape = regexp.MustCompile(patternForm)
	partShape    = regexp.MustCompile(`(?s)` + setForm + `|\\.|[^\\\[]`)
	itemShape    = regexp.MustCompile(`(?s)` + itemForm)
	endShape     = regexp.MustCompile(`(?s)` + endForm)
)

// whole is s with U+FFFD's own bytes for each byte that is no UTF-8: to patterns the two are one.
func whole(s string) string { return string([]rune(s)) }

// wantForm is the regular expression that says what p says; false if p is no pattern.
func wantForm(p string) (string, bool) {
	p = whole(p)
	if utf8.RuneCountInString(p) > 24 || !patternShape.MatchString(p) {
		return "", false
	}
	out := `(?s)\A`
	for _, x := range partShape.FindAllString(p, -1) {
		switch {
		case x == "*":
			out += ".*"
		case x == "?":
			out += "."
		case x[0] == '[':
			form, ok := wantSet(x[1 : len(x)-1])
			if !ok {
				return "", false
			}
			out += form
		default:
			out += regexp.QuoteMeta(unquoted(x))
		}
	}
	return out + `\z`, true
}

func wantSet(inside string) (string, bool) {
	out := "["
	if inside[0] == '^' {
		out, inside = "[^", inside[1:]
	}
	for _, x := range itemShape.FindAllString(inside, -1) {
		ends := endShape.FindAllString(x, -1)
		low, _ := utf8.DecodeRuneInString(unquoted(ends[0]))
		high, _ := utf8.DecodeRuneInString(unquoted(ends[len(ends)-1]))
		if high < low {
			return "", false
		}
		out += fmt.Sprintf(`\x{%x}-\x{%x}`, low, high)
	}
	return out + "]", true
}

func unquoted(x string) string {
	if len(x) > 1 && x[0] == '\\' {
		return x[1:]
	}
	return x
}

// holdAgainstForms holds Right of each pattern, and Match of it with each text, against regular expressions.
func holdAgainstForms(t *testing.T, patterns, texts []string) {
	t.Helper()
	for _, p := range patterns {
		form, right := wantForm(p)
		if Right(p) != right {
			t.Errorf("Right(%q): not %v", p, right)
		}
		if !right {
			if Match(p, p) || Match(p, "") {
				t.Errorf("%q is no pattern, and matches", p)
			}
			continue
		}
		said := regexp.MustCompile(form)
		for _, k := range texts {
			if want := said.MatchString(whole(k)); Match(p, k) != want {
				t.Errorf("Match(%q, %q): not %v", p, k, want)
			}
		}
	}
}

func TestP301RightKnown(t *testing.T) {
	for _, x := range []struct {
		want bool
		l    []string
	}{
		{true, []string{
			"", "*", "**", "?", "a", "a?b*", "é", "世*", " ", "\x00", "\n", "]", "]]", "-", "^", "^-]", "a]", "[a]]",
			"[a]", "[ab]", "[a-c]", "[a-a]", "[ab-dx]", "[a-bc-d]", "[[]", "[*]", "[?]", "[[-z]", "[a^]", "[A-^]", "[a^-z]",
			"[^a]", "[^^]", "[^^-z]", "[^a-c]", "[^ab-dx]", `[\^a]`, `[\^-z]`, `[\]]`, `[\-]`, `[\\]`, `[\[]`, `[A-\]]`, `[\--a]`, `[\a-\c]`, `[+-\-]`,
			`\\`, `\a`, `\*`, `\[`, `\]`, `\\\\`, `a\\`, `[a]\[`, `\é`,
			"\xff", "[\xff]", "\\\xff", "[\\\xff]", "[a-\xff]", "[\xff-\ufffd]", "[\ufffd-\xff]", "[\xff-\x80]", "[é-ü]", "[a-\U0010ffff]", "[\xe4\xb8]", "\xe4\\\xb8",
		}},
		{false, []string{
			"[", "[]", "[^", "[^]", "[a", "[^a", "[a-", "[a-]", "[^a-]", "[-", "[-]", "[-a]", "[^-]", "[^-z]", "[--a]", "[a-b-c]", "[a--c]", "[a-c-]", "[]a]", "[]]", "[^]]", "[]-a]",
			"[c-a]", "[a-^]", "[^c-a]", "[ab-dz-y]", `[a-\]]`, `[a-\-]`, "[ü-é]", "[\U0010ffff-a]", "[\xff-a]", "[\U00010000-\xff]", "[a]-[", "a[", "*[", "[[", "[a][",
			`\`, `a\`, `*\`, `\\\`, `[\`, `[a\`, `[\]`, `[a-\`, `[a-\]`, `[^\`, `[a]\`, "\xff\\", `\[\`, "é\\",
		}},
	} {
		for _, p := range x.l {
			if Right(p) != x.want {
				t.Errorf("Right(%q): not %v", p, x.want)
			}
		}
	}
}

func TestP301RightCountsRunes(t *testing.T) {
	if api.MaxPattern != 24 {
		t.Fatalf("MaxPattern: %d", api.MaxPattern)
	}
	for _, r := range []string{"a", "é", "世", "\U0001f600", "\xff", "\ufffd", "*", "?", "]"} {
		for n := range 60 {
			p := strings.Repeat(r, n)
			if Right(p) != (n <= 24) {
				t.Errorf("Right of %d times %q: %v", n, r, Right(p))
			}
			if Match(p, p) != (n <= 24) {
				t.Errorf("Match of %d times %q with itself: %v", n, r, Match(p, p))
			}
		}
	}
}

// TestP301RightCountsWhatIsNotTold: a `\`, and what stands in a set, are runes of a pattern too.
func TestP301RightCountsWhatIsNotTold(t *testing.T) {
	for _, x := range []struct {
		p, k string
		want bool
	}{
		{strings.Repeat(`\a`, 12), strings.Repeat("a", 12), true},
		{strings.Repeat(`\a`, 12) + "a", strings.Repeat("a", 13), false},
		{strings.Repeat(`\a`, 13), strings.Repeat("a", 13), false},
		{strings.Repeat("[a]", 8), strings.Repeat("a", 8), true},
		{strings.Repeat("[a]", 8) + "*", strings.Repeat("a", 8), false},
		{"[" + strings.Repeat("a", 22) + "]", "a", true},
		{"[" + strings.Repeat("a", 23) + "]", "a", false},
		{"[^" + strings.Repeat("é", 21) + "]", "a", true},
		{"[^" + strings.Repeat("é", 22) + "]", "a", false},
		{strings.Repeat("a", 1000), strings.Repeat("a", 1000), false},
		{strings.Repeat("a", 23) + `\`, strings.Repeat("a", 23), false},
		{strings.Repeat("a", 24) + `\`, strings.Repeat("a", 24), false},
	} {
		if Right(x.p) != x.want || Match(x.p, x.k) != x.want {
			t.Errorf("Right(%q), Match with %q: %v, %v, not %v", x.p, x.k, Right(x.p), Match(x.p, x.k), x.want)
		}
	}
}

func TestP301MatchKnown(t *testing.T) {
	for _, x := range []struct {
		p        string
		yes, not []string
	}{
		{"", []string{""}, []string{"a", "\xff", "*"}},
		{"*", []string{"", "a", "ab", "é", "\xff\xfe", " \n", strings.Repeat("é", 300)}, nil},
		{"**", []string{"", "a", "abc"}, nil},
		{"?", []string{"a", "é", "世", "\xff", "\ufffd", "?", "\n", "\x00", "\U0010ffff"}, []string{"", "ab", "\xe4\xb8", "\xff\xff"}},
		{"??", []string{"éa", "\xe4\xb8", "ab"}, []string{"", "é", "世", "abc"}},
		{"*?", []string{"a", "ab"}, []string{""}},
		{"?*?", []string{"ab", "abc"}, []string{"", "a"}},
		{"ab", []string{"ab"}, []string{"", "a", "b", "abc", "xab", "AB", "ba"}},
		{"a*", []string{"a", "ab", "aa"}, []string{"", "ba"}},
		{"*a", []string{"a", "ba", "aa", "aba"}, []string{"", "ab"}},
		{"*b*", []string{"b", "abc", "bb"}, []string{"", "ac"}},
		{"a*c*e", []string{"ace", "abcde", "acece"}, []string{"abde", "ae", "acee1"}},
		{"a*[x-z]", []string{"abcy", "ax", "axyz", "az"}, []string{"a", "aw", "y", "abc"}},
		{"*bc", []string{"bc", "abcbc", "bbc"}, []string{"abcb", "c"}},
		{"[a]", []string{"a"}, []string{"", "b", "aa", "[a]"}},
		{"[a-c]", []string{"a", "b", "c"}, []string{"", "`", "d", "-", "ab"}},
		{"[a-a]", []string{"a"}, []string{"b", "-"}},
		{"[ab-dx]", []string{"a", "b", "c", "d", "x"}, []string{"e", "-", "w", "y"}},
		{"[^a]", []string{"b", "é", "^", "\xff"}, []string{"", "a", "bb"}},
		{"[^ab-dx]", []string{"e", "-", "^"}, []string{"a", "b", "c", "d", "x", ""}},
		{"[^^]", []string{"a"}, []string{"^", ""}},
		{"[a^]", []string{"a", "^"}, []string{"b"}},
		{`[\^a]`, []string{"a", "^"}, []string{"b", `\`}},
		{`[\^-b]`, []string{"a", "^", "_", "b"}, []string{"c", "]", `\`}},
		{`[\]]`, []string{"]"}, []string{`\`, "", `\]`}},
		{`[\-]`, []string{"-"}, []string{`\`}},
		{`[a\-c]`, []string{"a", "-", "c"}, []string{"b", `\`}},
		{`[\\]`, []string{`\`}, []string{"]", `\\`}},
		{`[A-\]]`, []string{"A", "Z", "[", `\`, "]"}, []string{"^", "@", "-"}},
		{"[*?[]", []string{"*", "?", "["}, []string{"a", "", "]"}},
		{"[a]]", []string{"a]"}, []string{"a", "]"}},
		{"]-^", []string{"]-^"}, []string{"", "]"}},
		{`\*`, []string{"*"}, []string{"a", `\*`, "", `\`}},
		{`\?`, []string{"?"}, []string{"a"}},
		{`\[a]`, []string{"[a]"}, []string{"a"}},
		{`\a`, []string{"a"}, []string{`\a`}},
		{`\\`, []string{`\`}, []string{`\\`, ""}},
		{`\\*`, []string{`\`, `\a`}, []string{"*", "a"}},
		{`*\*`, []string{"*", "a*"}, []string{"a", ""}},
		{"[é-ü]", []string{"é", "ö", "ü"}, []string{"è", "ý", "\xc3", "e"}},
	} {
		for _, k := range x.yes {
			if !Match(x.p, k) {
				t.Errorf("Match(%q, %q): false", x.p, k)
			}
		}
		for _, k := range x.not {
			if Match(x.p, k) {
				t.Errorf("Match(%q, %q): true", x.p, k)
			}
		}
	}
}

// TestP301MatchOfBytesThatAreNoUTF8: each is the rune U+FFFD, in a pattern and in a text.
func TestP301MatchOfBytesThatAreNoUTF8(t *testing.T) {
	alike := []string{"\xff", "\xfe", "\x80", "\xc3", "\xe4", "\ufffd"}
	for _, a := range alike {
		for _, b := range alike {
			for _, p := range []string{a, "\\" + a, "[" + a + "]", "[\\" + a + "]", "[x" + a + "]", "[" + a + "-" + a + "]", "[a-" + a + "]", "[" + a + "-\U0010ffff]", "[^a]", "*" + a, a + "*"} {
				if !Match(p, b) {
					t.Errorf("Match(%q, %q): false", p, b)
				}
			}
			for _, p := range []string{"[^" + a + "]", "[^a-" + a + "]", "[\ufffe-\U0010ffff]", "[a-\ufffc]", a + a} {
				if Match(p, b) {
					t.Errorf("Match(%q, %q): true", p, b)
				}
			}
		}
	}
	if Match("\xc3\\\xa9", "é") || Match("\xc3[\xa9]", "é") || !Match("\xc3\xa9", "é") {
		t.Error("bytes that a pattern holds apart are not one rune")
	}
}

func TestP301MatchOfNoPatternIsFalse(t *testing.T) {
	for _, p := range []string{"[", "[]", "[^]", "[a", "[c-a]", "[-a]", "[a-]", "a[", "*[", `\`, `a\`, `*\`, strings.Repeat("*", 25), strings.Repeat("a", 25)} {
		for _, k := range []string{"", "a", "b", "[", p, strings.TrimSuffix(p, `\`), "-"} {
			if Match(p, k) {
				t.Errorf("Match(%q, %q): true", p, k)
			}
		}
	}
}

// TestP301AllShortPatterns goes over every text of marks and runes, those that are no patterns too.
func TestP301AllShortPatterns(t *testing.T) {
	patterns := sequences(5, "a", "b", "*", "?", "[", "]", `\`, "^", "-")
	holdAgainstForms(t, patterns, sequences(2, "a", "b", "c", "*", "[", "]", `\`, "^", "-"))
}

func TestP301AllRowsOfParts(t *testing.T) {
	patterns := sequences(4, "*", "?", "a", "[a-b]", "[^b]", `\*`, "é", "\xff")
	holdAgainstForms(t, patterns, sequences(3, "a", "b", "*", "é", "\xfe"))
}

func TestP301AllSets(t *testing.T) {
	var patterns []string
	for _, x := range sequences(4, "a", "c", "-", "^", `\]`, `\-`, `\^`, "\xff", "\U00010000", "[") {
		patterns = append(patterns, "["+x+"]", "[^"+x+"]", "["+x)
	}
	holdAgainstForms(t, patterns, []string{"", "a", "b", "c", "d", "-", "^", "_", "]", "[", `\`, "\xfe", "\ufffd", "\ufffc", "\ufffe", "\U00010000", "\U00010001", "aa"})
}

// TestP301MatchEndsWithManyStars would not end if each star tried each of its lengths.
func TestP301MatchEndsWithManyStars(t *testing.T) {
	k := strings.Repeat("a", 20000)
	if p := strings.Repeat("*a", 11) + "*b"; Match(p, k) || !Match(p, k+"b") {
		t.Errorf("Match(%q, ..)", p)
	}
	if p := strings.Repeat("*", 24); !Match(p, k) || !Match(p, "") {
		t.Errorf("Match(%q, ..)", p)
	}
}

func TestP302QuoteKnown(t *testing.T) {
	for _, x := range []struct{ k, want string }{
		{"", ""}, {"a", "a"}, {"a*", `a\*`}, {"*", `\*`}, {"?", `\?`}, {"[", `\[`}, {"]", `\]`}, {`\`, `\\`}, {"^", `\^`}, {"-", `\-`},
		{`*?[]\^-`, `\*\?\[\]\\\^\-`}, {`\*`, `\\\*`}, {"[a-z]", `\[a\-z\]`}, {"a b", "a b"}, {".+(){}|$/!", ".+(){}|$/!"},
		{"é", "é"}, {"é*世", `é\*世`}, {"\xff", "\xff"}, {"é\xff", "é\xff"}, {"\xff*\xfe", "\xff\\*\xfe"}, {"\xc3*\xa9", "\xc3\\*\xa9"}, {"\xe4\xb8-", "\xe4\xb8\\-"}, {"\ufffd?", "\ufffd\\?"},
		{strings.Repeat("*", 100), strings.Repeat(`\*`, 100)}, {strings.Repeat("a", 100), strings.Repeat("a", 100)},
	} {
		if got := Quote(x.k); got != x.want {
			t.Errorf("Quote(%q): %q, not %q", x.k, got, x.want)
		}
	}
}

func TestP302QuoteOfEachByte(t *testing.T) {
	for i := range 256 {
		k := string([]byte{byte(i)})
		want := k
		if strings.Contains(`*?[]\^-`, k) {
			want = `\` + k
		}
		if got := Quote(k); got != want {
			t.Errorf("Quote(%q): %q, not %q", k, got, want)
		}
	}
}

func TestP302PlainKnown(t *testing.T) {
	for _, x := range []struct{ p, want string }{
		{"", ""}, {"a", "a"}, {"ab", "ab"}, {`a\*`, "a*"}, {`\?`, "?"}, {`\[`, "["}, {`\[a]`, "[a]"}, {`\\`, `\`}, {`\\\*`, `\*`}, {`\a\b`, "ab"}, {`\\\\`, `\\`},
		{"]^-", "]^-"}, {`\]\^\-`, "]^-"}, {" \x00\n", " \x00\n"},
		{"é世", "é世"}, {`\é\世`, "é世"}, {"\xff", "\xff"}, {"\xff\\\xfe", "\xff\xfe"}, {"\\\xff", "\xff"}, {"\\\xe4\xb8", "\xe4\xb8"}, {"\xc3\\\xa9", "\xc3\xa9"}, {"\ufffd\\\ufffd", "\ufffd\ufffd"},
		{strings.Repeat("a", 24), strings.Repeat("a", 24)}, {strings.Repeat("世", 24), strings.Repeat("世", 24)}, {strings.Repeat(`\*`, 12), strings.Repeat("*", 12)}, {strings.Repeat("\xff", 24), strings.Repeat("\xff", 24)},
	} {
		if got, ok := Plain(x.p); got != x.want || !ok {
			t.Errorf("Plain(%q): %q, %v, not %q", x.p, got, ok, x.want)
		}
	}
}

func TestP302PlainOfNone(t *testing.T) {
	for _, p := range []string{
		"*", "a*", "*a", "?", "a?", "[a]", "a[b]", "[^a]", `[\*]`, `\\*`, `\\?`, `\\[a]`, `\*?`, `\a*`, "\xff*", "é?",
		"[", "]a[", "[]", "[c-a]", "[a", `\`, `a\`, `\\\`, `\*\`, "\xff\\",
		strings.Repeat("a", 25), strings.Repeat(`\*`, 12) + "a", strings.Repeat("\xff", 25), strings.Repeat("é", 25),
	} {
		if got, ok := Plain(p); got != "" || ok {
			t.Errorf("Plain(%q): %q, %v", p, got, ok)
		}
	}
}

// TestP302PlainOfAllShortPatterns takes each `\` away that stands ahead of a rune, where no mark is left bare.
func TestP302PlainOfAllShortPatterns(t *testing.T) {
	quotes := regexp.MustCompile(`(?s)\\(.)`)
	for _, p := range sequences(5, "a", "é", "*", "?", "[", "]", `\`, "^", "-") {
		_, right := wantForm(p)
		want, wantOK := "", right && !strings.ContainsAny(quotes.ReplaceAllString(p, ""), "*?[")
		if wantOK {
			want = quotes.ReplaceAllString(p, "$1")
		}
		if got, ok := Plain(p); got != want || ok != wantOK {
			t.Errorf("Plain(%q): %q, %v, not %q, %v", p, got, ok, want, wantOK)
		}
	}
}

// TestP302QuoteSaysItsText: what is quoted says that text, and none that is unlike it in runes.
func TestP302QuoteSaysItsText(t *testing.T) {
	texts := sequences(3, "a", "é", "*", "?", "[", "]", `\`, "^", "-", "\xff")
	for _, k := range texts {
		q := Quote(k)
		if got, ok := Plain(q); got != k || !ok {
			t.Errorf("Plain(Quote(%q)): %q, %v", k, got, ok)
		}
		if !Right(q) || !Match(q, k) || Match(q, k+"a") {
			t.Errorf("Quote(%q) does not say it alone", k)
		}
	}
	some := sequences(2, "a", "*", "?", "[", "]", `\`, "^", "-")
	for _, a := range some {
		for _, b := range some {
			if Match(Quote(a), b) != (a == b) {
				t.Errorf("Match(Quote(%q), %q): not %v", a, b, a == b)
			}
		}
	}
}
