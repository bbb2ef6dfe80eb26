package flash

import (
	"math"
	"strings"
	"testing"

	"cachepot/api"
)

const ok = api.OK

func small() api.Geom { return api.Geom{Page: 32, Pages: 3, Regions: 4} }
func great() api.Geom { return api.Geom{Page: 128, Pages: 10, Regions: 12} }
func odd() api.Geom   { return api.Geom{Page: 45, Pages: 7, Regions: 5} }

func sizes() []api.Geom { return []api.Geom{small(), odd(), great()} }

func pagesOf(g api.Geom) int { return g.Pages * g.Regions }

func bytesOf(g api.Geom) int { return g.Page * pagesOf(g) }

// full is n bytes c.
func full(c byte, n int) string { return strings.Repeat(string([]byte{c}), n) }

// made is n bytes of which no two neighbours are the same, and none is 255.
func made(n, seed int) string {
	b := make([]byte, n)
	for i := range b {
		b[i] = byte((i*7 + seed*31) % 251)
	}
	return string(b)
}

// up is a new device with that image.
func up(t *testing.T, g api.Geom, image string) *Flash {
	t.Helper()
	f, code := New(g, image)
	if f == nil || code != ok {
		t.Fatalf("New(%+v, %d bytes): %v %d", g, len(image), f, code)
	}
	return f
}

func wantCode(t *testing.T, what string, got, want api.Code) {
	t.Helper()
	if got != want {
		t.Errorf("%s: code %d, not %d", what, got, want)
	}
}

func wantRead(t *testing.T, f *Flash, page int, text string, code api.Code) {
	t.Helper()
	gotText, gotCode := f.Read(page)
	if gotText != text || gotCode != code {
		t.Errorf("Read(%d): %q %d, not %q %d", page, gotText, gotCode, text, code)
	}
}

// wantStands holds the page as Image tells it.
func wantStands(t *testing.T, f *Flash, page int, text string) {
	t.Helper()
	size := f.Geom().Page
	if got := f.Image()[page*size : (page+1)*size]; got != text {
		t.Errorf("page %d of the Image: %q, not %q", page, got, text)
	}
}

func wantState(t *testing.T, f *Flash, down bool, pending int) {
	t.Helper()
	if f.Down() != down || f.Pending() != pending {
		t.Errorf("Down %v, Pending %d, not %v, %d", f.Down(), f.Pending(), down, pending)
	}
}

// told is all that the device tells without being turned by it.
func told(f *Flash) string {
	var b strings.Builder
	b.WriteString(f.Image())
	for page := -1; page <= pagesOf(f.Geom()); page++ {
		text, code := f.Read(page)
		b.WriteString("|" + text + string(rune('A'+int(code))))
	}
	b.WriteString("#" + string(rune('0'+f.Pending())))
	if f.Down() {
		b.WriteString("down")
	}
	return b.String()
}

// wantSame does a call, and holds what the device tells ahead of it against what it tells behind it.
func wantSame(t *testing.T, f *Flash, what string, want api.Code, call func() api.Code) {
	t.Helper()
	ahead := told(f)
	wantCode(t, what, call(), want)
	if told(f) != ahead {
		t.Errorf("%s: it has changed something", what)
	}
}

// outside are numbers that are none of 0 to n-1.
func outside(n int) []int {
	return []int{n, n + 1, 2 * n, -1, -2, -n, math.MaxInt, math.MaxInt - 1, math.MinInt, math.MinInt + 1, math.MaxInt32, math.MinInt32, math.MaxInt/32 + 1}
}

func TestP701NewOfImages(t *testing.T) {
	for _, g := range sizes() {
		n := bytesOf(g)
		for _, length := range []int{0, 1, g.Page - 1, g.Page, g.Page + 1, n - 1, n} {
			image := made(n, 3)[:length]
			f := up(t, g, image)
			if f.Image() != image+full(255, n-length) {
				t.Errorf("%+v: the Image of %d bytes is another", g, length)
			}
			if f.Geom() != g {
				t.Errorf("Geom: %+v, not %+v", f.Geom(), g)
			}
			wantState(t, f, false, 0)
		}
		for _, length := range []int{n + 1, n + g.Page, 2 * n} {
			if f, code := New(g, full(255, length)); f != nil || code != api.ErrArg {
				t.Errorf("New(%+v, %d bytes): %v %d", g, length, f, code)
			}
		}
	}
}

func TestP701NewOfWrongGeoms(t *testing.T) {
	wrong := []api.Geom{{}, {Page: 31, Pages: 3, Regions: 4}, {Page: 129, Pages: 3, Regions: 4}, {Page: 32, Pages: 2, Regions: 4}, {Page: 32, Pages: 11, Regions: 4}, {Page: 32, Pages: 3, Regions: 3}, {Page: 32, Pages: 3, Regions: 13},
		{Page: -32, Pages: -3, Regions: 4}, {Page: math.MaxInt, Pages: 3, Regions: 4}, {Page: 32, Pages: math.MinInt, Regions: 4}, {Page: 32, Pages: 3, Regions: math.MaxInt}, {Page: math.MinInt, Pages: math.MinInt, Regions: math.MinInt}}
	for _, g := range wrong {
		for _, image := range []string{"", "a", full(255, 384)} {
			if f, code := New(g, image); f != nil || code != api.ErrArg {
				t.Errorf("New(%+v, %d bytes): %v %d", g, len(image), f, code)
			}
		}
	}
}

func TestP701ReadEachPage(t *testing.T) {
	for _, g := range sizes() {
		image := made(bytesOf(g), 5)
		f := up(t, g, image)
		for page := range pagesOf(g) {
			wantRead(t, f, page, image[page*g.Page:(page+1)*g.Page], ok)
		}
		for _, page := range outside(pagesOf(g)) {
			wantRead(t, f, page, "", api.ErrArg)
		}
		f.Fuse(0)
		f.Flush()
		for _, page := range append(outside(pagesOf(g)), 0, pagesOf(g)-1) {
			wantRead(t, f, page, "", api.ErrDown)
		}
		if f.Image() != image {
			t.Errorf("%+v: down, the Image is another", g)
		}
	}
}

func TestP701PendingIsReadButNotInTheImage(t *testing.T) {
	for _, g := range sizes() {
		f := up(t, g, "")
		blank := f.Image()
		for i, page := range []int{pagesOf(g) - 1, 0, g.Pages} {
			text := made(g.Page, i)
			wantCode(t, "Program", f.Program(page, text), ok)
			wantRead(t, f, page, text, ok)
			wantState(t, f, false, i+1)
		}
		wantRead(t, f, 1, full(255, g.Page), ok)
		if f.Image() != blank {
			t.Errorf("%+v: what is pending is in the Image", g)
		}
	}
}

func TestP701DevicesAreApart(t *testing.T) {
	image := made(384, 1)
	a, b := up(t, small(), image), up(t, small(), image)
	ahead := a.Image()
	page, _ := a.Read(0)
	a.Rot(0, 0, 9)
	a.Erase(0)
	if b.Image() != image || ahead != image || page != image[:32] {
		t.Error("another device, or what was told, has changed")
	}
}

func TestP702ProgramAtItsEdges(t *testing.T) {
	for _, g := range sizes() {
		text := made(g.Page, 2)
		for _, page := range []int{0, 1, g.Pages - 1, g.Pages, pagesOf(g) - 1} {
			f := up(t, g, "")
			for _, b := range []string{"", text[1:], text + "x", text + text} {
				wantSame(t, f, "Program of a wrong length", api.ErrArg, func() api.Code { return f.Program(page, b) })
			}
			wantCode(t, "Program", f.Program(page, text), ok)
			wantStands(t, f, page, full(255, g.Page))
			wantSame(t, f, "Program of a page that is pending", api.ErrState, func() api.Code { return f.Program(page, full(255, g.Page)) })
			wantSame(t, f, "Program of a wrong length and a pending page", api.ErrArg, func() api.Code { return f.Program(page, text[1:]) })
			wantCode(t, "Flush", f.Flush(), ok)
			wantStands(t, f, page, text)
			wantSame(t, f, "Program of a page that is not blank", api.ErrState, func() api.Code { return f.Program(page, text) })
		}
		f := up(t, g, "")
		for _, page := range outside(pagesOf(g)) {
			wantSame(t, f, "Program of no page", api.ErrArg, func() api.Code { return f.Program(page, text) })
			wantSame(t, f, "Program of no page, no length", api.ErrArg, func() api.Code { return f.Program(page, "") })
		}
	}
}

// A page with a single byte that is not 255, wherever it stands, is not blank.
func TestP702ProgramOfPagesThatAreNearlyBlank(t *testing.T) {
	g := small()
	for at := range g.Page {
		for _, x := range []byte{1, 128, 255} {
			f := up(t, g, "")
			f.Rot(4, at, x)
			wantSame(t, f, "Program of a page with one byte", api.ErrState, func() api.Code { return f.Program(4, made(32, 0)) })
			wantCode(t, "Program of the page ahead", f.Program(3, made(32, 0)), ok)
			wantCode(t, "Program of the page behind", f.Program(5, made(32, 0)), ok)
		}
	}
}

func TestP702ProgramOfBlanks(t *testing.T) {
	f := up(t, small(), "")
	blank := full(255, 32)
	wantCode(t, "Program of 255 alone", f.Program(7, blank), ok)
	wantState(t, f, false, 1)
	wantSame(t, f, "Program ahead of the flush", api.ErrState, func() api.Code { return f.Program(7, made(32, 1)) })
	wantSame(t, f, "Erase ahead of the flush", api.ErrState, func() api.Code { return f.Erase(2) })
	f.Flush()
	wantCode(t, "Program behind the flush", f.Program(7, made(32, 1)), ok)
	wantRead(t, f, 7, made(32, 1), ok)
}

func TestP702EraseEachRegion(t *testing.T) {
	for _, g := range sizes() {
		image := made(bytesOf(g), 8)
		size := g.Page * g.Pages
		for region := range g.Regions {
			f := up(t, g, image)
			wantCode(t, "Erase", f.Erase(region), ok)
			if want := image[:region*size] + full(255, size) + image[(region+1)*size:]; f.Image() != want {
				t.Errorf("%+v: Erase(%d) has made another Image", g, region)
			}
			wantState(t, f, false, 0)
			wantCode(t, "Program of an erased page", f.Program(region*g.Pages, made(g.Page, 0)), ok)
		}
		f := up(t, g, image)
		for _, region := range outside(g.Regions) {
			wantSame(t, f, "Erase of no region", api.ErrArg, func() api.Code { return f.Erase(region) })
		}
	}
}

func TestP702EraseBesidePendingPages(t *testing.T) {
	g := odd()
	for page := range pagesOf(g) {
		f := up(t, g, "")
		f.Program(page, made(g.Page, page))
		for region := range g.Regions {
			if region == page/g.Pages {
				wantSame(t, f, "Erase of a region with a pending page", api.ErrState, func() api.Code { return f.Erase(region) })
			} else {
				wantSame(t, f, "Erase of a blank region", ok, func() api.Code { return f.Erase(region) })
			}
		}
		f.Flush()
		wantCode(t, "Erase behind the flush", f.Erase(page/g.Pages), ok)
		wantRead(t, f, page, full(255, g.Page), ok)
	}
}

func TestP702FlushDoesAll(t *testing.T) {
	g := great()
	f := up(t, g, "")
	var want strings.Builder
	for page := range pagesOf(g) {
		f.Program(page, made(g.Page, page))
		want.WriteString(made(g.Page, page))
	}
	wantState(t, f, false, pagesOf(g))
	for range 2 {
		wantCode(t, "Flush", f.Flush(), ok)
		wantState(t, f, false, 0)
		if f.Image() != want.String() {
			t.Error("Flush has made another Image")
		}
	}
}

// Of each kind of call, behind n others of each kind, the one that is next blows.
func TestP702FuseOfEachCount(t *testing.T) {
	for n := range 7 {
		for kind := range 3 {
			f := up(t, great(), "")
			f.Fuse(n)
			for i := range n {
				wantCode(t, "a call ahead of the blow", countingCall(f, i, i%3), ok)
			}
			if f.Down() {
				t.Fatalf("Fuse(%d): down too early", n)
			}
			wantCode(t, "the call that blows", countingCall(f, n, kind), api.ErrDown)
			if !f.Down() {
				t.Errorf("Fuse(%d): still up", n)
			}
		}
	}
}

// countingCall is the i-th call of a row of calls that nothing but a fuse refuses.
func countingCall(f *Flash, i, kind int) api.Code {
	switch kind {
	case 0:
		return f.Program(i, made(128, i))
	case 1:
		return f.Erase(11)
	}
	return f.Flush()
}

func TestP702FuseBelowNoughtAndOverAnother(t *testing.T) {
	for _, n := range []int{-1, -2, math.MinInt} {
		f := up(t, small(), "")
		f.Fuse(0)
		f.Fuse(n)
		for range 20 {
			wantCode(t, "Flush without a fuse", f.Flush(), ok)
		}
	}
	f := up(t, small(), "")
	f.Fuse(0)
	f.Fuse(2)
	wantCode(t, "Flush 1", f.Flush(), ok)
	f.Fuse(1)
	wantCode(t, "Flush 2", f.Flush(), ok)
	wantCode(t, "Flush 3", f.Flush(), api.ErrDown)
	f = up(t, small(), "")
	f.Fuse(5)
	f.Fuse(0)
	wantCode(t, "Flush of a shorter fuse", f.Flush(), api.ErrDown)
	f = up(t, small(), "")
	f.Fuse(math.MaxInt)
	wantCode(t, "Flush of the longest fuse", f.Flush(), ok)
}

// A call that is refused, and one that never counts, takes nothing of the fuse: n calls are done behind it yet.
func TestP702RefusedCallsDoNotCount(t *testing.T) {
	for n := range 5 {
		f := up(t, small(), made(32, 1))
		wantCode(t, "Program", f.Program(4, made(32, 2)), ok)
		for _, call := range callsThatDoNotCount(f) {
			f.Fuse(n)
			for range 3 {
				wantCode(t, call.what, call.do(), call.want)
			}
			wantState(t, f, false, 1)
			for range n {
				wantCode(t, "Erase ahead of the blow behind "+call.what, f.Erase(0), ok)
				f.Rot(0, 0, 1)
			}
			wantCode(t, "Erase that blows behind "+call.what, f.Erase(0), api.ErrDown)
			wantState(t, f, true, 4)
			f.Crash(nil)
			f.Rot(0, 31, 8)
			wantCode(t, "Erase of the page that was lost", f.Erase(1), ok)
			wantCode(t, "Program", f.Program(4, made(32, 2)), ok)
		}
	}
}

type uncounted struct {
	what string
	want api.Code
	do   func() api.Code
}

// callsThatDoNotCount are calls of a small device of which page 0 is not blank, and page 4 is pending.
func callsThatDoNotCount(f *Flash) []uncounted {
	text := made(32, 3)
	read := func(page int) api.Code {
		_, code := f.Read(page)
		return code
	}
	return []uncounted{
		{"Program, not blank", api.ErrState, func() api.Code { return f.Program(0, text) }},
		{"Program, pending", api.ErrState, func() api.Code { return f.Program(4, text) }},
		{"Program, no page", api.ErrArg, func() api.Code { return f.Program(12, text) }},
		{"Program, no length", api.ErrArg, func() api.Code { return f.Program(5, "") }},
		{"Erase, pending", api.ErrState, func() api.Code { return f.Erase(1) }},
		{"Erase, no region", api.ErrArg, func() api.Code { return f.Erase(4) }},
		{"Read", ok, func() api.Code { return read(0) }},
		{"Read, pending", ok, func() api.Code { return read(4) }},
		{"Read, no page", api.ErrArg, func() api.Code { return read(12) }},
		{"Rot", ok, func() api.Code { return f.Rot(3, 0, 0) }},
		{"Rot, no page", api.ErrArg, func() api.Code { return f.Rot(12, 0, 0) }},
		{"Image and Pending", ok, func() api.Code { return api.Code(len(f.Image()) - 384 + f.Pending() - 1) }},
		{"Geom and Down", ok, func() api.Code { f.Geom(); f.Down(); return ok }},
	}
}

// wantAllDown holds every call behind a blow: it is refused for that alone, whatever else is wrong with it.
func wantAllDown(t *testing.T, f *Flash) {
	t.Helper()
	for _, page := range []int{0, 5, 12, -1, math.MinInt} {
		wantRead(t, f, page, "", api.ErrDown)
		wantSame(t, f, "Program, down", api.ErrDown, func() api.Code { return f.Program(page, made(32, 1)) })
		wantSame(t, f, "Program of no length, down", api.ErrDown, func() api.Code { return f.Program(page, "") })
		wantSame(t, f, "Erase, down", api.ErrDown, func() api.Code { return f.Erase(page) })
	}
	wantSame(t, f, "Flush, down", api.ErrDown, f.Flush)
	f.Fuse(-1)
	wantSame(t, f, "Flush, down, with no fuse", api.ErrDown, f.Flush)
	f.Fuse(3)
	wantSame(t, f, "Flush, down, with a fuse", api.ErrDown, f.Flush)
}

func TestP702BlownProgram(t *testing.T) {
	text := made(32, 4)
	for _, c := range []struct {
		mask []int
		want string
	}{{nil, full(255, 32)}, {[]int{0}, full(255, 32)}, {[]int{1}, text}, {[]int{6}, text[:5] + full(255, 27)}} {
		f := up(t, small(), "")
		f.Fuse(0)
		wantCode(t, "Program", f.Program(2, text), api.ErrDown)
		wantState(t, f, true, 1)
		wantStands(t, f, 2, full(255, 32))
		wantAllDown(t, f)
		f.Crash(c.mask)
		wantState(t, f, false, 0)
		wantRead(t, f, 2, c.want, ok)
	}
}

func TestP702BlownErase(t *testing.T) {
	g := odd()
	image := made(bytesOf(g)-g.Page, 6)
	f := up(t, g, image)
	last := pagesOf(g) - 1
	wantCode(t, "Program", f.Program(last, made(g.Page, 9)), ok)
	f.Fuse(0)
	wantCode(t, "Erase", f.Erase(2), api.ErrDown)
	wantState(t, f, true, 1+g.Pages)
	if f.Image() != image+full(255, g.Page) {
		t.Error("a blown Erase has done something")
	}
	f.Crash([]int{1, 1, 0, 2, g.Page, -1, 1, 3})
	for i, n := range []int{g.Page, 0, 1, g.Page - 1, 0, g.Page, 2} {
		page := 2*g.Pages + i
		old := image[page*g.Page : (page+1)*g.Page]
		wantRead(t, f, page, full(255, n)+old[n:], ok)
	}
	wantRead(t, f, last, made(g.Page, 9), ok)
	wantRead(t, f, 2*g.Pages-1, image[(2*g.Pages-1)*g.Page:2*g.Pages*g.Page], ok)
	wantRead(t, f, 3*g.Pages, image[3*g.Pages*g.Page:(3*g.Pages+1)*g.Page], ok)
}

func TestP702BlownEraseByTheDocument(t *testing.T) {
	f := up(t, small(), "")
	f.Fuse(0)
	wantCode(t, "Erase", f.Erase(1), api.ErrDown)
	wantState(t, f, true, 3)
	wantAllDown(t, f)
}

func TestP702BlownFlush(t *testing.T) {
	f := up(t, small(), "")
	f.Program(3, made(32, 1))
	f.Program(8, made(32, 2))
	f.Fuse(0)
	wantCode(t, "Flush", f.Flush(), api.ErrDown)
	wantState(t, f, true, 2)
	wantStands(t, f, 3, full(255, 32))
	wantAllDown(t, f)
	f.Crash([]int{0, 1})
	wantRead(t, f, 3, full(255, 32), ok)
	wantRead(t, f, 8, made(32, 2), ok)
}

func TestP703CrashOfTheDocument(t *testing.T) {
	f := up(t, small(), "")
	f.Program(0, full('0', 32))
	f.Crash([]int{3})
	wantRead(t, f, 0, "00"+full(255, 30), ok)
}

// wantKept is how many of a page's new bytes a number of the mask lets be there, found by counting round.
func wantKept(size, m int) int {
	if m < 1 {
		return 0
	}
	if m == 1 {
		return size
	}
	n := 1
	for range m - 2 {
		n++
		if n == size {
			n = 1
		}
	}
	return n
}

func TestP703CrashOfEachNumber(t *testing.T) {
	for _, g := range sizes() {
		text := made(g.Page, 1)
		for m := -3; m < 3*g.Page; m++ {
			f := up(t, g, "")
			f.Program(4, text)
			f.Crash([]int{m})
			n := wantKept(g.Page, m)
			wantRead(t, f, 4, text[:n]+full(255, g.Page-n), ok)
		}
	}
	// 2 to the 63rd less 3, modulo 31: 2 to the 5th is 1 there, so it is 8 less 3, and 6 bytes are there.
	for m, n := range map[int]int{math.MinInt: 0, math.MinInt + 1: 0, 32: 31, 33: 1, 34: 2, math.MaxInt: 6, math.MaxInt - 1: 5} {
		f := up(t, small(), "")
		f.Program(4, made(32, 1))
		f.Crash([]int{m})
		wantRead(t, f, 4, made(32, 1)[:n]+full(255, 32-n), ok)
	}
}

func TestP703CrashByTheRow(t *testing.T) {
	row := []int{7, 0, 11, 3}
	for length := range 8 {
		mask := []int{1, 5, 1, 1, 1, 1, 1, 1}[:length]
		f := up(t, small(), "")
		for _, page := range row {
			f.Program(page, made(32, page))
		}
		f.Crash(mask)
		wantState(t, f, false, 0)
		for i, page := range row {
			n := 0
			if i < length {
				n = wantKept(32, mask[i])
			}
			wantRead(t, f, page, made(32, page)[:n]+full(255, 32-n), ok)
			wantStands(t, f, page, made(32, page)[:n]+full(255, 32-n))
		}
	}
}

func TestP703CrashOfNothing(t *testing.T) {
	image := made(384, 2)
	f := up(t, small(), image)
	for _, mask := range [][]int{nil, {}, {0}, {1, 1, 1}, {2, 3, 4}} {
		f.Crash(mask)
		wantState(t, f, false, 0)
	}
	if f.Image() != image {
		t.Error("a crash with nothing pending has made another Image")
	}
}

func TestP703CrashTakesTheFuse(t *testing.T) {
	f := up(t, small(), "")
	f.Fuse(0)
	f.Crash(nil)
	wantCode(t, "Flush", f.Flush(), ok)
	f.Fuse(0)
	f.Flush()
	f.Fuse(0)
	f.Crash(nil)
	for range 3 {
		wantCode(t, "Flush of one that was down", f.Flush(), ok)
	}
	wantCode(t, "Program", f.Program(0, made(32, 1)), ok)
}

func TestP703CrashKeepsNoMask(t *testing.T) {
	f := up(t, small(), "")
	f.Program(0, made(32, 1))
	mask := []int{1, 0, 5}
	f.Crash(mask)
	if mask[0] != 1 || mask[1] != 0 || mask[2] != 5 {
		t.Error("the mask has changed")
	}
	for i := range mask {
		mask[i] = 7
	}
	f.Program(1, made(32, 2))
	f.Crash(nil)
	wantRead(t, f, 0, made(32, 1), ok)
	wantRead(t, f, 1, full(255, 32), ok)
}

func TestP703RotEachByte(t *testing.T) {
	for _, g := range sizes() {
		image := made(bytesOf(g), 3)
		for page := range pagesOf(g) {
			for at := range g.Page {
				x := byte(page + at)
				f := up(t, g, image)
				wantCode(t, "Rot", f.Rot(page, at, x), ok)
				want := []byte(image)
				want[page*g.Page+at] ^= x
				if f.Image() != string(want) {
					t.Fatalf("%+v: Rot(%d, %d, %d) has made another Image", g, page, at, x)
				}
			}
		}
	}
}

func TestP703RotOfEachX(t *testing.T) {
	for x := range 256 {
		f := up(t, small(), made(384, 1))
		wantCode(t, "Rot", f.Rot(2, 5, byte(x)), ok)
		text := []byte(made(384, 1)[64:96])
		text[5] ^= byte(x)
		wantRead(t, f, 2, string(text), ok)
		wantCode(t, "Rot back", f.Rot(2, 5, byte(x)), ok)
		wantRead(t, f, 2, made(384, 1)[64:96], ok)
	}
}

func TestP703RotOfWrongPlaces(t *testing.T) {
	for _, g := range sizes() {
		f := up(t, g, made(bytesOf(g), 3))
		for range 2 {
			for _, page := range outside(pagesOf(g)) {
				wantSame(t, f, "Rot of no page", api.ErrArg, func() api.Code { return f.Rot(page, 0, 1) })
			}
			for _, at := range outside(g.Page) {
				wantSame(t, f, "Rot of no byte", api.ErrArg, func() api.Code { return f.Rot(1, at, 1) })
			}
			f.Fuse(0)
			f.Flush()
		}
	}
}

func TestP703RotBelowWhatIsPending(t *testing.T) {
	text := made(32, 1)
	for _, c := range []struct {
		m    int
		want string
	}{{0, full(255, 9) + "\x55" + full(255, 22)}, {1, text}, {2, text[:1] + full(255, 8) + "\x55" + full(255, 22)}, {12, text[:11] + full(255, 21)}} {
		f := up(t, small(), "")
		f.Program(3, text)
		wantCode(t, "Rot", f.Rot(3, 9, 0xaa), ok)
		wantRead(t, f, 3, text, ok)
		wantStands(t, f, 3, full(255, 9)+"\x55"+full(255, 22))
		wantState(t, f, false, 1)
		f.Crash([]int{c.m})
		wantRead(t, f, 3, c.want, ok)
	}
	f := up(t, small(), "")
	f.Program(3, text)
	f.Rot(3, 9, 0xaa)
	f.Flush()
	wantRead(t, f, 3, text, ok)
}

func TestP703RotOfOneThatIsDown(t *testing.T) {
	f := up(t, small(), "")
	f.Fuse(0)
	f.Program(0, made(32, 1))
	wantCode(t, "Rot", f.Rot(0, 0, 0x0f), ok)
	wantState(t, f, true, 1)
	wantStands(t, f, 0, "\xf0"+full(255, 31))
	f.Crash(nil)
	wantRead(t, f, 0, "\xf0"+full(255, 31), ok)
}

func TestP704NilFlash(t *testing.T) {
	var f *Flash
	for _, n := range []int{0, -1, 1, 12, math.MaxInt, math.MinInt} {
		f.Fuse(n)
		f.Crash([]int{n})
		f.Crash(nil)
		wantRead(t, f, n, "", api.ErrDown)
		wantCode(t, "Program", f.Program(n, made(32, 1)), api.ErrDown)
		wantCode(t, "Program", f.Program(n, ""), api.ErrDown)
		wantCode(t, "Erase", f.Erase(n), api.ErrDown)
		wantCode(t, "Flush", f.Flush(), api.ErrDown)
		wantCode(t, "Rot", f.Rot(n, n, 1), api.ErrDown)
		wantState(t, f, true, 0)
	}
	if f.Geom() != (api.Geom{}) || f.Image() != "" {
		t.Errorf("Geom %+v, Image %q of a nil Flash", f.Geom(), f.Image())
	}
}

// plain is a small device in another form: of each page the bytes that are done, and those that are pending.
type plain struct {
	done, next [12]string
	row        []int
	down       bool
	fuse       int
}

func (p *plain) counts(do, blow func()) api.Code {
	if p.fuse == 0 {
		blow()
		p.down = true
		return api.ErrDown
	}
	p.fuse--
	do()
	return ok
}

func (p *plain) wait(page int, b string) {
	p.next[page] = b
	p.row = append(p.row, page)
}

func (p *plain) program(page int, b string) api.Code {
	if p.down {
		return api.ErrDown
	}
	if p.next[page] != "" || p.done[page] != full(255, 32) {
		return api.ErrState
	}
	wait := func() { p.wait(page, b) }
	return p.counts(wait, wait)
}

func (p *plain) erase(region int) api.Code {
	if p.down {
		return api.ErrDown
	}
	first := 3 * region
	if p.next[first]+p.next[first+1]+p.next[first+2] != "" {
		return api.ErrState
	}
	return p.counts(func() {
		for i := range 3 {
			p.done[first+i] = full(255, 32)
		}
	}, func() {
		for i := range 3 {
			p.wait(first+i, full(255, 32))
		}
	})
}

func (p *plain) end(mask []int) {
	for i, page := range p.row {
		n := 0
		if i < len(mask) {
			n = wantKept(32, mask[i])
		}
		p.done[page] = p.next[page][:n] + p.done[page][n:]
		p.next[page] = ""
	}
	p.row = nil
}

func (p *plain) flush() api.Code {
	if p.down {
		return api.ErrDown
	}
	return p.counts(func() { p.end([]int{1, 1, 1, 1, 1, 1, 1, 1, 1, 1, 1, 1}) }, func() {})
}

func (p *plain) crash(mask []int) {
	p.end(mask)
	p.down, p.fuse = false, -1
}

func (p *plain) rot(page, at int, x byte) api.Code {
	b := []byte(p.done[page])
	b[at] ^= x
	p.done[page] = string(b)
	return ok
}

// told is what told tells of such a device.
func (p *plain) told() string {
	var b strings.Builder
	for _, page := range p.done {
		b.WriteString(page)
	}
	read := func(text string, code api.Code) { b.WriteString("|" + text + string(rune('A'+int(code)))) }
	for page := -1; page <= 12; page++ {
		switch {
		case p.down:
			read("", api.ErrDown)
		case page < 0 || page == 12:
			read("", api.ErrArg)
		case p.next[page] != "":
			read(p.next[page], ok)
		default:
			read(p.done[page], ok)
		}
	}
	b.WriteString("#" + string(rune('0'+len(p.row))))
	if p.down {
		b.WriteString("down")
	}
	return b.String()
}

// both is a call of a device, and the same of its plain form.
type both struct {
	what string
	do   func(f *Flash) api.Code
	same func(p *plain) api.Code
}

func bothPrograms() []both {
	program := func(what string, page int, b string) both {
		return both{what, func(f *Flash) api.Code { return f.Program(page, b) }, func(p *plain) api.Code { return p.program(page, b) }}
	}
	erase := func(what string, region int) both {
		return both{what, func(f *Flash) api.Code { return f.Erase(region) }, func(p *plain) api.Code { return p.erase(region) }}
	}
	return []both{
		program("Program(5)", 5, made(32, 1)), program("Program(3)", 3, made(32, 2)), program("Program(4, blank)", 4, full(255, 32)), program("Program(0)", 0, made(32, 3)),
		erase("Erase(1)", 1), erase("Erase(0)", 0), {"Flush", (*Flash).Flush, (*plain).flush},
	}
}

func bothOthers() []both {
	fuse := func(what string, n int) both {
		return both{what, func(f *Flash) api.Code { f.Fuse(n); return ok }, func(p *plain) api.Code { p.fuse = n; return ok }}
	}
	crash := func(what string, mask []int) both {
		return both{what, func(f *Flash) api.Code { f.Crash(mask); return ok }, func(p *plain) api.Code { p.crash(mask); return ok }}
	}
	return []both{
		fuse("Fuse(0)", 0), fuse("Fuse(1)", 1), fuse("Fuse(-1)", -1), crash("Crash()", nil), crash("Crash(1, 4, 1)", []int{1, 4, 1}),
		{"Rot(3)", func(f *Flash) api.Code { return f.Rot(3, 2, 0x81) }, func(p *plain) api.Code { return p.rot(3, 2, 0x81) }},
	}
}

// TestP702P703EachRun holds all runs of four calls against the plain form, call by call.
func TestP702P703EachRun(t *testing.T) {
	calls := append(bothPrograms(), bothOthers()...)
	n := len(calls)
	for run := range n * n * n * n {
		f, p, what := up(t, small(), made(32, 9)), &plain{fuse: -1}, "new"
		for i := range p.done {
			p.done[i] = full(255, 32)
		}
		p.done[0] = made(32, 9)
		for rest := n*n*n*n + run; rest >= n; rest /= n {
			c := calls[rest%n]
			what += ", " + c.what
			got, want := c.do(f), c.same(p)
			if got != want || told(f) != p.told() {
				t.Fatalf("%s: code %d, not %d, and\n%q, not\n%q", what, got, want, told(f), p.told())
			}
		}
	}
}
