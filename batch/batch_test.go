package batch

import (
	"encoding/binary"
	"slices"
	"strings"
	"testing"

	"cachepot/api"
	"cachepot/keys"
)

func put(key, val string) api.Write { return api.Write{Key: key, Val: val} }

func del(key string) api.Write { return api.Write{Key: key, Del: true} }

// delWith is a Del that has a Val, which no batch has.
func delWith(key, val string) api.Write { return api.Write{Key: key, Del: true, Val: val} }

func row(l ...api.Write) []api.Write { return l }

func letters(n int) string { return strings.Repeat("v", n) }

// puts are n puts, in the order of their keys.
func puts(n int) []api.Write {
	var l []api.Write
	for i := range n {
		l = append(l, put(string(rune('a'+i)), "v"))
	}
	return l
}

// batches are ordinary ones, and the edges of what a batch may be.
func batches() [][]api.Write {
	l := [][]api.Write{
		row(put("a", "b")), row(put("a", "")), row(del("a")), row(del("a"), put("é", "")), row(put("a", "1"), del("ab"), put("b", "2")),
		row(put("z", ""), put("é", ""), put("世", ""), put("\ufffd", ""), put("\uffff", ""), put("\U00010000", "")),
		row(put(strings.Repeat("a", 12), letters(48))), row(put(strings.Repeat("\U0010ffff", 12), "\x00\xff")), row(del(strings.Repeat("\U0010ffff", 12))),
		row(put("a", letters(47)), put("b", strings.Repeat("é", 24)), put("c", strings.Repeat("\xff", 48))),
		row(put("!", "a b"), del("~"), put("\u00a1", "\x01\x00")),
	}
	full := []api.Write{}
	for i := range 8 {
		full = append(full, put(strings.Repeat("\U0010fffe", 11)+string(rune(0x10fff0+i)), letters(48)))
	}
	l = append(l, full)
	for n := 1; n <= 8; n++ {
		l = append(l, puts(n))
	}
	return l
}

// someWrites are writes of all kinds, right and wrong, in no order.
func someWrites() []api.Write {
	return row(put("b", "1"), put("a", "2"), del("a"), put("é", letters(48)), put("é", letters(49)), delWith("b", "x"), delWith("c", letters(49)), del(""), put("a b", letters(49)), put("\xff", "3"), del("\ufffd"), put("\xfe", ""))
}

// rowsOf are all rows of at most n of those writes.
func rowsOf(of []api.Write, n int) [][]api.Write {
	out, last := [][]api.Write{nil}, [][]api.Write{nil}
	for range n {
		var next [][]api.Write
		for _, l := range last {
			for _, w := range of {
				next = append(next, append(slices.Clone(l), w))
			}
		}
		out, last = append(out, next...), next
	}
	return out
}

func wantRight(t *testing.T, l []api.Write, want api.Code) {
	t.Helper()
	kept := slices.Clone(l)
	if got := Right(l); got != want {
		t.Errorf("Right(%#v): %d, not %d", l, got, want)
	}
	if !slices.Equal(l, kept) {
		t.Errorf("Right has changed %#v to %#v", kept, l)
	}
}

func TestP501RightOfHowMany(t *testing.T) {
	wantRight(t, nil, api.ErrBatch)
	wantRight(t, row(), api.ErrBatch)
	for n := 1; n <= 8; n++ {
		wantRight(t, puts(n), api.OK)
	}
	for n := 9; n <= 20; n++ {
		wantRight(t, puts(n), api.ErrBatch)
	}
	wantRight(t, make([]api.Write, 8), api.ErrKey)
	wantRight(t, make([]api.Write, 9), api.ErrBatch)
	wantRight(t, append(row(put("", letters(49))), puts(8)...), api.ErrBatch)
}

func TestP501RightOfBatches(t *testing.T) {
	for _, l := range batches() {
		wantRight(t, l, api.OK)
	}
}

func TestP501RightOfAKey(t *testing.T) {
	for _, k := range []string{"", " ", "a b", "a\n", "\x00", "\x1f", "\x7f", "\u0080", "\u00a0", "\xff", "a\xc3", "\xed\xa0\x80", strings.Repeat("a", 13), strings.Repeat("é", 13)} {
		wantRight(t, row(put(k, "v")), api.ErrKey)
		wantRight(t, row(del(k)), api.ErrKey)
		wantRight(t, row(put("a", ""), put(k, "")), api.ErrKey)
	}
	for _, k := range []string{"!", "~", "é", "\u00a1", "\ufffd", strings.Repeat("a", 12), strings.Repeat("\U0001f600", 12)} {
		wantRight(t, row(put(k, "v")), api.OK)
		wantRight(t, row(del(k)), api.OK)
	}
}

func TestP501RightCountsBytesOfAVal(t *testing.T) {
	for _, v := range []string{"", "a", " ", "\x00", "\xff", letters(48), strings.Repeat("\xff", 48), strings.Repeat("é", 24)} {
		wantRight(t, row(put("a", v)), api.OK)
	}
	for _, v := range []string{letters(49), strings.Repeat("\xff", 49), strings.Repeat("é", 25), "x" + strings.Repeat("é", 24), letters(5000)} {
		wantRight(t, row(put("a", v)), api.ErrVal)
		wantRight(t, row(put("a", ""), put("b", v)), api.ErrVal)
	}
}

func TestP501RightOfADelWithAVal(t *testing.T) {
	for _, v := range []string{"v", " ", "\x00", letters(48)} {
		wantRight(t, row(delWith("a", v)), api.ErrForm)
		wantRight(t, row(put("a", v), delWith("b", v)), api.ErrForm)
	}
	wantRight(t, row(delWith("a", "")), api.OK)
}

func TestP501RightOfTheOrder(t *testing.T) {
	for _, x := range []struct{ less, more string }{
		{"a", "b"}, {"a", "ab"}, {"Z", "a"}, {"z", "é"}, {"é", "世"}, {"世", "\ufffd"}, {"\uffff", "\U00010000"}, {"\ufffd", "\ufffda"}, {"ab", "b"},
	} {
		wantRight(t, row(put(x.less, ""), put(x.more, "")), api.OK)
		wantRight(t, row(put(x.less, ""), del(x.more)), api.OK)
		wantRight(t, row(put(x.more, ""), put(x.less, "")), api.ErrForm)
		wantRight(t, row(del(x.more), put(x.less, "")), api.ErrForm)
		wantRight(t, row(put(x.less, "1"), put(x.less, "2")), api.ErrForm)
		wantRight(t, row(put(x.less, "1"), del(x.less)), api.ErrForm)
		wantRight(t, row(put(x.less, ""), put(x.more, ""), put(x.less, "")), api.ErrForm)
		wantRight(t, row(put(x.less, ""), put(x.more, ""), put(x.more, "")), api.ErrForm)
	}
	last := puts(8)
	last[7] = last[6]
	wantRight(t, last, api.ErrForm)
}

// TestP501RightTellsTheFirst: write by write, and of one write the code that is named first.
func TestP501RightTellsTheFirst(t *testing.T) {
	long := letters(49)
	wantRight(t, row(put("", long)), api.ErrKey)
	wantRight(t, row(delWith("", long)), api.ErrKey)
	wantRight(t, row(delWith("a", long)), api.ErrVal)
	wantRight(t, row(put("b", ""), put("a", long)), api.ErrVal)
	wantRight(t, row(put("b", ""), put("a b", "")), api.ErrKey)
	wantRight(t, row(put("b", ""), put("a", ""), put("", "")), api.ErrForm)
	wantRight(t, row(put("b", ""), put("a", ""), put("c", long)), api.ErrForm)
	wantRight(t, row(put("b", long), put("a b", "")), api.ErrVal)
	wantRight(t, row(delWith("a", "v"), put("", long)), api.ErrForm)
	wantRight(t, row(put("a b", ""), delWith("a", long)), api.ErrKey)
}

// plainRight is what Right should tell, by all that is wrong with each write and with those ahead.
func plainRight(l []api.Write) api.Code {
	if len(l) == 0 || len(l) > 8 {
		return api.ErrBatch
	}
	for i, w := range l {
		if !keys.Right(w.Key) {
			return api.ErrKey
		}
		if len(w.Val) > 48 {
			return api.ErrVal
		}
		if w.Del && w.Val != "" {
			return api.ErrForm
		}
		if i > 0 && slices.Compare([]rune(l[i-1].Key), []rune(w.Key)) != -1 {
			return api.ErrForm
		}
	}
	return api.OK
}

func TestP501RightOfAnyRow(t *testing.T) {
	for _, l := range rowsOf(someWrites(), 4) {
		wantRight(t, l, plainRight(l))
	}
}

func TestP502MakeKnown(t *testing.T) {
	for _, x := range []struct{ l, want []api.Write }{
		{nil, nil},
		{row(), nil},
		{row(put("a", "1")), row(put("a", "1"))},
		{row(put("a", "1"), put("b", "2"), del("a")), row(del("a"), put("b", "2"))},
		{row(del("a"), put("a", "1")), row(put("a", "1"))},
		{row(put("a", "1"), put("a", "2"), put("a", "")), row(put("a", ""))},
		{row(put("b", "1"), put("a", "1"), delWith("a", "x"), put("", "0"), put("b", "2")), row(put("", "0"), del("a"), put("b", "2"))},
		{row(delWith("a", "x"), put("a", "1")), row(put("a", "1"))},
		{row(put("世", "1"), put("é", "2"), put("z", "3"), put("ab", "4"), put("a", "5")), row(put("a", "5"), put("ab", "4"), put("z", "3"), put("é", "2"), put("世", "1"))},
		{row(put("\xff", "1"), put("\ufffd", "2"), del("\xfe"), put("\xff", "3")), row(put("\ufffd", "2"), del("\xfe"), put("\xff", "3"))},
		{row(put("\U00010000", "1"), put("\xff", "2")), row(put("\xff", "2"), put("\U00010000", "1"))},
		{row(put("a b", letters(49)), put(strings.Repeat("a", 13), "1")), row(put("a b", letters(49)), put(strings.Repeat("a", 13), "1"))},
		{append(puts(20), puts(20)...), puts(20)},
	} {
		if got := Make(x.l); !slices.Equal(got, x.want) {
			t.Errorf("Make(%#v): %#v, not %#v", x.l, got, x.want)
		}
	}
}

// plainLast is the last write of key, by going through all of them.
func plainLast(l []api.Write, key string) (last api.Write, is bool) {
	for _, w := range l {
		if w.Key == key {
			last, is = w, true
		}
	}
	return last, is
}

// plainKeys are the keys of l as keys.Sorted tells them.
func plainKeys(l []api.Write) []string {
	var all []string
	for _, w := range l {
		all = append(all, w.Key)
	}
	return keys.Sorted(all)
}

func TestP502OfAnyRow(t *testing.T) {
	for _, l := range rowsOf(someWrites(), 4) {
		kept, want := slices.Clone(l), []api.Write{}
		for _, k := range plainKeys(l) {
			w, _ := plainLast(l, k)
			if w.Del {
				w.Val = ""
			}
			want = append(want, w)
		}
		if got := Make(l); !slices.Equal(got, want) {
			t.Errorf("Make(%#v): %#v, not %#v", l, got, want)
		}
		if got := Keys(l); !slices.Equal(got, plainKeys(l)) {
			t.Errorf("Keys(%#v): %#v, not %#v", l, got, plainKeys(l))
		}
		for _, k := range []string{"a", "b", "c", "é", "", "a b", "\xff", "\xfe", "\ufffd", "\xfd", "ab", "A"} {
			w, is := Find(l, k)
			if wantW, wantIs := plainLast(l, k); w != wantW || is != wantIs {
				t.Errorf("Find(%#v, %#v): %#v %v, not %#v %v", l, k, w, is, wantW, wantIs)
			}
		}
		if !slices.Equal(l, kept) {
			t.Errorf("%#v has been changed to %#v", kept, l)
		}
	}
}

// TestP502MakeOfABatch: a batch is made already, and what is made of right writes, not too many, is a batch.
func TestP502MakeOfABatch(t *testing.T) {
	for _, l := range batches() {
		if got := Make(l); !slices.Equal(got, l) {
			t.Errorf("Make(%#v): %#v", l, got)
		}
		turned := slices.Clone(l)
		slices.Reverse(turned)
		if got := Make(turned); !slices.Equal(got, l) {
			t.Errorf("Make(%#v): %#v", turned, got)
		}
	}
	for _, l := range rowsOf(row(put("a", "1"), delWith("a", "x"), put("b", ""), del("é")), 5)[1:] {
		wantRight(t, Make(l), api.OK)
	}
}

func TestP502FindKnown(t *testing.T) {
	l := row(put("b", "1"), put("a", "1"), delWith("a", "x"), put("", "0"), put("b", "2"), del("c"), put("\xff", "f"), put("d", "1"), del("d"))
	for _, x := range []struct {
		key  string
		want api.Write
		is   bool
	}{
		{"a", delWith("a", "x"), true}, {"b", put("b", "2"), true}, {"c", del("c"), true}, {"", put("", "0"), true}, {"\xff", put("\xff", "f"), true}, {"d", del("d"), true},
		{"e", api.Write{}, false}, {"\ufffd", api.Write{}, false}, {"\xfe", api.Write{}, false}, {"B", api.Write{}, false}, {"aa", api.Write{}, false},
	} {
		if got, is := Find(l, x.key); got != x.want || is != x.is {
			t.Errorf("Find of %#v: %#v %v, not %#v %v", x.key, got, is, x.want, x.is)
		}
		if got, is := Find(nil, x.key); got != (api.Write{}) || is {
			t.Errorf("Find of %#v in no writes: %#v %v", x.key, got, is)
		}
	}
}

func TestP502KeysKnown(t *testing.T) {
	for _, x := range []struct {
		l    []api.Write
		want []string
	}{
		{nil, nil},
		{row(put("a", "")), []string{"a"}},
		{row(put("b", "1"), del("a"), put("", ""), del("b")), []string{"", "a", "b"}},
		{row(put("世", ""), put("é", ""), put("z", ""), put("a b", "")), []string{"a b", "z", "é", "世"}},
		{row(put("\xff", ""), put("\ufffd", ""), del("\xff")), []string{"\ufffd", "\xff"}},
	} {
		if got := Keys(x.l); !slices.Equal(got, x.want) {
			t.Errorf("Keys(%#v): %#v, not %#v", x.l, got, x.want)
		}
	}
}

func TestP502AnswersAreNewAndChangeNothing(t *testing.T) {
	for _, in := range [][]api.Write{row(put("b", "1"), delWith("a", "x"), put("b", "2")), row(put("a", "1"), del("b"), put("c", ""))} {
		kept, made, names := slices.Clone(in), Make(in), Keys(in)
		if !slices.Equal(in, kept) {
			t.Errorf("%#v has been changed to %#v", kept, in)
		}
		wantMade, wantNames := slices.Clone(made), slices.Clone(names)
		clear(in)
		if !slices.Equal(made, wantMade) || !slices.Equal(names, wantNames) {
			t.Errorf("what was handed in is shared: %#v, %#v", made, names)
		}
		copy(in, kept)
		clear(made)
		clear(names)
		if !slices.Equal(in, kept) || !slices.Equal(Make(in), wantMade) || !slices.Equal(Keys(in), wantNames) {
			t.Errorf("what was answered is shared: %#v", in)
		}
	}
}

func wantBytes(t *testing.T, l []api.Write, want string, code api.Code) {
	t.Helper()
	kept := slices.Clone(l)
	if got, gotCode := Bytes(l); got != want || gotCode != code {
		t.Errorf("Bytes(%#v): %#v %d, not %#v %d", l, got, gotCode, want, code)
	}
	if !slices.Equal(l, kept) {
		t.Errorf("Bytes has changed %#v to %#v", kept, l)
	}
}

func wantRead(t *testing.T, b string, want []api.Write, code api.Code) {
	t.Helper()
	if got, gotCode := Read(b); !slices.Equal(got, want) || gotCode != code {
		t.Errorf("Read(%#v): %#v %d, not %#v %d", b, got, gotCode, want, code)
	}
}

func TestP503BytesKnown(t *testing.T) {
	wantBytes(t, row(put("a", "b")), "\x01\x00\x01a\x01b", api.OK)
	wantBytes(t, row(put("a", "")), "\x01\x00\x01a\x00", api.OK)
	wantBytes(t, row(del("a")), "\x01\x01\x01a", api.OK)
	wantBytes(t, row(del("a"), put("é", "")), "\x02\x01\x01a\x00\x02é\x00", api.OK)
	wantBytes(t, row(put("a", "\x00\xff"), del("b"), put("世", letters(48))), "\x03\x00\x01a\x02\x00\xff\x01\x01b\x00\x03世\x30"+letters(48), api.OK)
	wantBytes(t, puts(8), "\x08\x00\x01a\x01v\x00\x01b\x01v\x00\x01c\x01v\x00\x01d\x01v\x00\x01e\x01v\x00\x01f\x01v\x00\x01g\x01v\x00\x01h\x01v", api.OK)
	wantBytes(t, row(del(strings.Repeat("\U0010ffff", 12))), "\x01\x01\x30"+strings.Repeat("\U0010ffff", 12), api.OK)
}

// plainBytes are the bytes of any writes, batch or not, as P503 lays them.
func plainBytes(l []api.Write) string {
	b := binary.AppendUvarint(nil, uint64(len(l)))
	for _, w := range l {
		parts := []string{w.Key, w.Val}
		if b = append(b, 0); w.Del {
			b[len(b)-1], parts = 1, parts[:1]
		}
		for _, s := range parts {
			b = append(binary.AppendUvarint(b, uint64(len(s))), s...)
		}
	}
	return string(b)
}

func TestP503BytesOfAnyRow(t *testing.T) {
	for _, l := range append(rowsOf(someWrites(), 4), batches()...) {
		if code := plainRight(l); code != api.OK {
			wantBytes(t, l, "", code)
		} else {
			wantBytes(t, l, plainBytes(l), api.OK)
		}
	}
	wantBytes(t, puts(9), "", api.ErrBatch)
}

func TestP503ReadIsBytesBack(t *testing.T) {
	for _, l := range batches() {
		wantRead(t, plainBytes(l), l, api.OK)
	}
}

func TestP503ReadCutOffAtEachByte(t *testing.T) {
	for _, l := range batches() {
		whole := plainBytes(l)
		for cut := range len(whole) {
			wantRead(t, whole[:cut], nil, api.ErrShort)
		}
	}
}

func TestP503ReadWithBytesLeft(t *testing.T) {
	for _, l := range batches() {
		for _, left := range []string{"\x00", "\x01", "\xff", "x", plainBytes(l)} {
			wantRead(t, plainBytes(l)+left, nil, api.ErrForm)
		}
	}
	wantRead(t, "\x01\x00\x00\x00x", nil, api.ErrForm)
	wantRead(t, "\x01\x01\x01 x", nil, api.ErrForm)
}

func TestP503ReadOfHowMany(t *testing.T) {
	wantRead(t, "", nil, api.ErrShort)
	wantRead(t, "\x80", nil, api.ErrShort)
	wantRead(t, "\x80\x00", nil, api.ErrForm)
	wantRead(t, "\x81\x00", nil, api.ErrForm)
	wantRead(t, "\xff\xff\xff\xff\x10", nil, api.ErrForm)
	for _, n := range []uint64{0, 9, 10, 127, 128, 255, 256, 257, 300, 1 << 16, 1<<31 - 1, 1 << 31, 1<<32 - 1} {
		head := string(binary.AppendUvarint(nil, n))
		wantRead(t, head, nil, api.ErrBatch)
		wantRead(t, head+"\x02", nil, api.ErrBatch)
		wantRead(t, head+plainBytes(puts(9))[1:], nil, api.ErrBatch)
	}
	for n := 1; n <= 8; n++ {
		wantRead(t, string([]byte{byte(n)}), nil, api.ErrShort)
		wantRead(t, string([]byte{byte(n)})+plainBytes(puts(n))[1:], puts(n), api.OK)
	}
}

func TestP503ReadOfTheByteAhead(t *testing.T) {
	for c := 2; c < 256; c++ {
		mark := string([]byte{byte(c)})
		wantRead(t, "\x01"+mark, nil, api.ErrForm)
		wantRead(t, "\x01"+mark+"\x01a\x01b", nil, api.ErrForm)
		wantRead(t, "\x02\x00\x01a\x00"+mark+"\x01b\x00", nil, api.ErrForm)
		wantRead(t, "\x02\x00\x00\x00"+mark, nil, api.ErrForm)
		wantRead(t, "\x02\x01\x01a"+mark+"\x01b", nil, api.ErrForm)
	}
}

func TestP503ReadOfTexts(t *testing.T) {
	for _, x := range []struct {
		b    string
		code api.Code
	}{
		{"\x01\x00\x31", api.ErrLong}, {"\x01\x01\x31" + letters(49), api.ErrLong}, {"\x01\x00\x30", api.ErrShort}, {"\x01\x01\x30" + letters(47), api.ErrShort},
		{"\x01\x01\x30" + letters(48), api.ErrKey}, {"\x01\x01\x0d" + letters(13), api.ErrKey}, {"\x01\x00\x30" + letters(48), api.ErrShort},
		{"\x01\x00\x01a\x31", api.ErrLong}, {"\x01\x00\x01a\x31" + letters(49), api.ErrLong}, {"\x01\x00\x01a\x30", api.ErrShort}, {"\x01\x00\x01a\x30" + letters(47), api.ErrShort},
		{"\x01\x00\x01a\xff\xff\xff\xff\x0f", api.ErrLong}, {"\x01\x00\xff\xff\xff\xff\x0f", api.ErrLong},
		{"\x01\x00\x81\x00a", api.ErrForm}, {"\x01\x00\x80\x80\x80\x80\x10", api.ErrForm}, {"\x01\x00\x01a\x81\x00b", api.ErrForm}, {"\x01\x00\x80", api.ErrShort}, {"\x01\x00\x01a\x80", api.ErrShort},
	} {
		wantRead(t, x.b, nil, x.code)
	}
	wantRead(t, "\x01\x00\x01a\x30"+letters(48), row(put("a", letters(48))), api.OK)
	wantRead(t, "\x01\x01\x30"+strings.Repeat("\U0001f600", 12), row(del(strings.Repeat("\U0001f600", 12))), api.OK)
}

// TestP503ReadOfNoBatch: writes that are laid as they should be, and are no batch, have Right's code; but a Del's Val is
// not laid at all, and a Val or a Key that is too long is met on the way.
func TestP503ReadOfNoBatch(t *testing.T) {
	of := row(put("b", "1"), put("a", ""), del("a"), put("é", "2"), del(""), put("a b", "3"), put("\xff", "4"), del(strings.Repeat("a", 13)), put("c", letters(48)))
	for _, l := range rowsOf(of, 4)[1:] {
		if code := plainRight(l); code != api.OK {
			wantRead(t, plainBytes(l), nil, code)
			wantRead(t, plainBytes(l)+"\x00", nil, api.ErrForm)
		} else {
			wantRead(t, plainBytes(l), l, api.OK)
		}
	}
}

// reader goes through bytes as they come, and keeps the first code that it meets.
type reader struct {
	b    []byte
	code api.Code
}

func (r *reader) meet(code api.Code) {
	if r.code == api.OK {
		r.code = code
	}
}

func (r *reader) num() uint64 {
	v, n := binary.Uvarint(r.b)
	switch {
	case n == 0 && len(r.b) < 5:
		r.meet(api.ErrShort)
	case n <= 0 || v >= 1<<32 || len(binary.AppendUvarint(nil, v)) != n:
		r.meet(api.ErrForm)
	}
	r.b = r.b[max(n, 0):]
	return v
}

func (r *reader) text(most uint64) string {
	n := r.num()
	if n > most {
		r.meet(api.ErrLong)
	}
	if n > uint64(len(r.b)) {
		r.meet(api.ErrShort)
		n = 0
	}
	s := string(r.b[:n])
	r.b = r.b[n:]
	return s
}

func (r *reader) write() api.Write {
	if len(r.b) == 0 {
		r.meet(api.ErrShort)
		return api.Write{}
	}
	mark := r.b[0]
	if mark > 1 {
		r.meet(api.ErrForm)
	}
	r.b = r.b[1:]
	w := api.Write{Key: r.text(48), Del: mark == 1}
	if !w.Del {
		w.Val = r.text(48)
	}
	return w
}

// plainRead is what Read should tell of b.
func plainRead(b string) ([]api.Write, api.Code) {
	r, l := &reader{b: []byte(b)}, []api.Write{}
	n := r.num()
	if n < 1 || n > 8 {
		r.meet(api.ErrBatch)
	}
	for range min(n, 8) {
		l = append(l, r.write())
	}
	if len(r.b) > 0 {
		r.meet(api.ErrForm)
	}
	if r.meet(plainRight(l)); r.code != api.OK {
		return nil, r.code
	}
	return l, api.OK
}

func TestP503ReadOfAnyBytes(t *testing.T) {
	const of = "\x00\x01\x02\x09\x31a\x80\xff"
	last := []string{""}
	for range 6 {
		var next []string
		for _, s := range last {
			want, code := plainRead(s)
			wantRead(t, s, want, code)
			for i := range len(of) {
				next = append(next, s+of[i:i+1])
			}
		}
		last = next
	}
	for _, s := range last {
		want, code := plainRead(s)
		wantRead(t, s, want, code)
	}
}

// TestP503ReadOfOneByteTurned: what is read of bytes of which one has become any other is laid in those very bytes.
func TestP503ReadOfOneByteTurned(t *testing.T) {
	for _, l := range batches() {
		whole := plainBytes(l)
		for at := range len(whole) {
			for c := range 256 {
				turned := whole[:at] + string([]byte{byte(c)}) + whole[at+1:]
				want, code := plainRead(turned)
				wantRead(t, turned, want, code)
				if code == api.OK {
					wantBytes(t, want, turned, api.OK)
				}
			}
		}
	}
}

func TestP503AnswersAreNewAndChangeNothing(t *testing.T) {
	in := row(put("a", "1"), del("b"))
	b, _ := Bytes(in)
	clear(in)
	wantRead(t, b, row(put("a", "1"), del("b")), api.OK)
	first, _ := Read(b)
	clear(first)
	wantRead(t, b, row(put("a", "1"), del("b")), api.OK)
}
