package tape

import (
	"fmt"
	"math"
	"strings"
	"testing"

	"cachepot/api"
	"cachepot/chart"
	"cachepot/flash"
	"cachepot/frame"
)

const (
	ok     = api.OK
	maxSeq = math.MaxInt32
	none   = -1 // where a region is told: there is none
)

func small() api.Geom { return api.Geom{Page: 32, Pages: 3, Regions: 4} }
func great() api.Geom { return api.Geom{Page: 128, Pages: 10, Regions: 12} }
func odd() api.Geom   { return api.Geom{Page: 45, Pages: 7, Regions: 5} }

func sizes() []api.Geom { return []api.Geom{small(), odd(), great()} }

func slotsOf(g api.Geom) int { return g.Pages - 1 }

func roomOf(g api.Geom) int { return g.Page - 15 }

// layouts are all that unlike numbers of pages and regions make.
func layouts() []api.Geom {
	var l []api.Geom
	for pages := 3; pages <= 10; pages++ {
		for regions := 4; regions <= 12; regions++ {
			l = append(l, api.Geom{Page: 32 + 3*pages + 2*regions, Pages: pages, Regions: regions})
		}
	}
	return l
}

// full is n bytes c.
func full(c byte, n int) string { return strings.Repeat(string([]byte{c}), n) }

// spot is an image that is blank up to that page, of which a single byte is none of a blank page.
func spot(g api.Geom, page, at int) string {
	return full(255, page*g.Page+at) + "\x7f"
}

// outside are numbers that are none of 0 to n-1.
func outside(n int) []int {
	return []int{n, n + 1, 2 * n, -1, -2, -n, math.MaxInt, math.MinInt, math.MaxInt32, math.MinInt32, 1 << 32, -1 << 32}
}

func part(seq uint32, text string) api.Frame { return api.Frame{Kind: 2, A: seq, Body: text} }

func head(epoch uint32, region int) api.Frame {
	return api.Frame{Kind: 1, A: epoch, B: uint32(region)}
}

// pageOf is the page of x by the call that the document names.
func pageOf(t *testing.T, g api.Geom, x api.Frame) string {
	t.Helper()
	b, code := frame.Bytes(g, x)
	wantCode(t, "frame.Bytes", code, ok)
	return b
}

// taken is a region as it is Set.
type taken struct {
	region int
	epoch  uint32
	used   int
}

// rig is a tape, and what it is made of.
type rig struct {
	f *flash.Flash
	c *chart.Chart
	t *Tape
}

// over is a tape over a device with that image, and an account with these regions taken, and that one open.
func over(t *testing.T, g api.Geom, image string, open int, l ...taken) rig {
	t.Helper()
	f, code := flash.New(g, image)
	wantCode(t, "flash.New", code, ok)
	c := chart.New(g)
	for _, x := range l {
		wantCode(t, "Set", c.Set(x.region, x.epoch, x.used), ok)
	}
	if open != none {
		wantCode(t, "Resume", c.Resume(open), ok)
	}
	x := New(f, c)
	if x == nil {
		t.Fatalf("New over %+v is nil", g)
	}
	return rig{f, c, x}
}

// all are all regions, with rising epochs from first on, and so many slots of each used.
func all(g api.Geom, first uint32, used int) []taken {
	var l []taken
	for region := range g.Regions {
		l = append(l, taken{region, first + uint32(region), used})
	}
	return l
}

func wantCode(t *testing.T, what string, got, want api.Code) {
	t.Helper()
	if got != want {
		t.Errorf("%s: code %d, not %d", what, got, want)
	}
}

func wantAppend(t *testing.T, r rig, x api.Frame, page int) {
	t.Helper()
	if got, code := r.t.Append(x); got != page || code != ok {
		t.Errorf("Append(%+v): %d %d, not %d", x, got, code, page)
	}
}

// wantNoAppend holds the code, and that no page is told beside it.
func wantNoAppend(t *testing.T, r rig, x api.Frame, want api.Code) {
	t.Helper()
	if got, code := r.t.Append(x); got != 0 || code != want {
		t.Errorf("Append(%+v): %d %d, not 0 %d", x, got, code, want)
	}
}

func wantRegion(t *testing.T, r rig, region int, epoch uint32, used int) {
	t.Helper()
	if r.c.Epoch(region) != epoch || r.c.Used(region) != used {
		t.Errorf("region %d: Epoch %d, Used %d, not %d, %d", region, r.c.Epoch(region), r.c.Used(region), epoch, used)
	}
}

func wantState(t *testing.T, r rig, free, left, pending int) {
	t.Helper()
	if r.c.Free() != free || r.c.Left() != left || r.f.Pending() != pending {
		t.Errorf("Free %d, Left %d, Pending %d, not %d, %d, %d", r.c.Free(), r.c.Left(), r.f.Pending(), free, left, pending)
	}
}

// wantPages holds each page of the device, up to the first that is wrong: the frame that is told of it, or else blank.
func wantPages(t *testing.T, r rig, l map[int]api.Frame) {
	t.Helper()
	g := r.f.Geom()
	for page := range g.Pages * g.Regions {
		want := full(255, g.Page)
		if x, is := l[page]; is {
			want = pageOf(t, g, x)
		}
		if got, code := r.f.Read(page); got != want || code != ok {
			t.Errorf("%+v: page %d: %q %d, not %q", g, page, got, code, want)
			return
		}
	}
}

// look is all that the device and the account tell without being turned by it.
func look(f *flash.Flash, c *chart.Chart) string {
	var b strings.Builder
	b.WriteString(f.Image())
	for page := range f.Geom().Pages * f.Geom().Regions {
		text, code := f.Read(page)
		b.WriteString("|" + text + fmt.Sprint(code))
	}
	oldest, found := c.Oldest()
	b.WriteString(fmt.Sprint(f.Geom(), f.Down(), f.Pending(), c.Geom(), c.Free(), c.Left(), c.Avail(), oldest, found))
	for region := range c.Geom().Regions {
		b.WriteString(fmt.Sprint(" ", c.Epoch(region), " ", c.Used(region)))
	}
	return b.String()
}

// goneOn is how a rig looks, and what it answers from here on, to its end: which region is open, and what is left of a
// fuse, is seen by that alone.
func goneOn(r rig) string {
	l := []any{look(r.f, r.c)}
	for i := range 4 {
		page, code := r.t.Append(part(uint32(i+1), "on"))
		l = append(l, page, code, r.f.Pending())
	}
	l = append(l, look(r.f, r.c), r.t.Flush(), r.f.Down(), r.f.Pending())
	r.f.Crash(nil)
	for region := range r.c.Geom().Regions {
		l = append(l, r.c.Resume(region), r.c.Erase(region))
	}
	return fmt.Sprint(append(l, look(r.f, r.c))...)
}

// set says what is done with a device ahead of a call that must not touch it.
func set() map[string]func(*flash.Flash) {
	return map[string]func(*flash.Flash){
		"as it is":  func(*flash.Flash) {},
		"fuse of 0": func(f *flash.Flash) { f.Fuse(0) },
		"fuse of 1": func(f *flash.Flash) { f.Fuse(1) },
		"down":      func(f *flash.Flash) { f.Fuse(0); f.Flush() },
	}
}

// wantNothingDone does the call on what is made, and holds it against what is made and not called.
func wantNothingDone(t *testing.T, what string, made func() rig, want api.Code, call func(x *Tape) (int, api.Code)) {
	t.Helper()
	for name, ahead := range set() {
		a, b := made(), made()
		ahead(a.f)
		ahead(b.f)
		if page, code := call(a.t); page != 0 || code != want {
			t.Errorf("%s, %s: %d %d, not 0 %d", what, name, page, code, want)
		}
		if goneOn(a) != goneOn(b) {
			t.Errorf("%s, %s: something was done", what, name)
		}
	}
}

// situations are tapes of all states: with nothing, with slots left, without, full, at the greatest epoch, on a device
// that takes nothing.
func situations(t *testing.T, g api.Geom) []func() rig {
	slots, last := slotsOf(g), g.Regions-1
	rows := [][]taken{{}, {{1, 9, 1}}, {{1, 9, slots}}, {{0, 4, 1}, {2, 9, slots}}, {{last, maxSeq, slots}}, {{last, maxSeq, 1}}}
	var l []func() rig
	for _, image := range []string{"", full(0, g.Page*g.Pages*g.Regions)} {
		for _, row := range rows {
			l = append(l, func() rig { return over(t, g, image, none, row...) })
			if len(row) > 0 {
				l = append(l, func() rig { return over(t, g, image, row[len(row)-1].region, row...) })
			}
		}
		l = append(l, func() rig { return over(t, g, image, last, all(g, 9, slots)...) })
		l = append(l, func() rig { return over(t, g, image, last, all(g, 9, 1)...) })
		l = append(l, func() rig { return over(t, g, image, none, all(g, 9, 1)...) })
	}
	return l
}

func TestP1201NewOfNone(t *testing.T) {
	f, _ := flash.New(small(), "")
	c := chart.New(small())
	// Those that nobody made have the Geom that nil ones tell.
	for i, x := range []*Tape{New(nil, c), New(f, nil), New(nil, nil), New(nil, &chart.Chart{}), New(&flash.Flash{}, nil)} {
		if x != nil {
			t.Errorf("New of no device or no account, %d, is not nil", i)
		}
	}
	if New(f, c) == nil {
		t.Errorf("New of both is nil")
	}
}

// TestP1201NewOfUnlikeGeoms has Geoms that are unlike in a single number, with as many bytes and pages in all, too.
func TestP1201NewOfUnlikeGeoms(t *testing.T) {
	l := []api.Geom{{Page: 32, Pages: 4, Regions: 6}, {Page: 33, Pages: 4, Regions: 6}, {Page: 32, Pages: 5, Regions: 6}, {Page: 32, Pages: 4, Regions: 7}, {Page: 32, Pages: 6, Regions: 4}, {Page: 64, Pages: 4, Regions: 6}, {Page: 32, Pages: 3, Regions: 8}, {Page: 48, Pages: 4, Regions: 4}}
	for _, a := range append(l, layouts()...) {
		for _, b := range l {
			f, _ := flash.New(a, "")
			if x := New(f, chart.New(b)); (x != nil) != (a == b) {
				t.Errorf("New of %+v and %+v: %v", a, b, x)
			}
		}
	}
}

// TestP1201NewDoesNothing to the device and the account.
func TestP1201NewDoesNothing(t *testing.T) {
	for _, g := range sizes() {
		for i, made := range situations(t, g) {
			wantNothingDone(t, fmt.Sprint("New ", i), made, ok, func(x *Tape) (int, api.Code) {
				if New(x.flash, x.chart) == nil {
					return 1, ok
				}
				return 0, ok
			})
		}
	}
}

// TestP1201TheFirstOfAll: none is open, so the first region is opened for it.
func TestP1201TheFirstOfAll(t *testing.T) {
	for _, g := range sizes() {
		r := over(t, g, "", none)
		wantAppend(t, r, part(7, "ab"), 1)
		wantPages(t, r, map[int]api.Frame{0: head(1, 0), 1: part(7, "ab")})
		wantRegion(t, r, 0, 1, 1)
		wantState(t, r, g.Regions-1, slotsOf(g)-1, 2)
		if !frame.Blank(r.f.Image()) {
			t.Errorf("it is done ahead of a Flush")
		}
		wantCode(t, "Flush", r.t.Flush(), ok)
		want := pageOf(t, g, head(1, 0)) + pageOf(t, g, part(7, "ab"))
		if got := r.f.Image(); got != want+full(255, len(got)-len(want)) {
			t.Errorf("the Image is another behind a Flush")
		}
		wantState(t, r, g.Regions-1, slotsOf(g)-1, 0)
	}
}

// TestP1201ByTheBytes says a head and a frame behind it byte by byte.
func TestP1201ByTheBytes(t *testing.T) {
	r := over(t, small(), "", none, taken{2, 0x01020303, 0})
	wantAppend(t, r, part(0x0506, "xyz"), 10)
	for page, want := range map[int]string{9: "\x01\x04\x03\x02\x01\x03\x00\x00\x00\x00\x00", 10: "\x02\x06\x05\x00\x00\x00\x00\x00\x00\x03\x00xyz"} {
		got, code := r.f.Read(page)
		if ahead, _ := strings.CutSuffix(got[:28], full(0, 28-len(want))); ahead != want || code != ok {
			t.Errorf("page %d: %q %d, not %q", page, got, code, want)
		}
	}
}

// TestP1201EachSlotOfEachDevice goes up to the last slot of all, and one behind.
func TestP1201EachSlotOfEachDevice(t *testing.T) {
	for _, g := range append(layouts(), sizes()...) {
		if t.Failed() {
			return
		}
		r, l, n := over(t, g, "", none), map[int]api.Frame{}, uint32(0)
		for page := range g.Pages * g.Regions {
			region, slot := page/g.Pages, page%g.Pages
			if slot == 0 {
				l[page] = head(uint32(region+1), region)
				continue
			}
			n++
			l[page] = api.Frame{Kind: int(1 + n%4), A: n, B: n * n, Body: full(byte(n), int(n)%(roomOf(g)+1))}
			wantAppend(t, r, l[page], page)
			wantRegion(t, r, region, uint32(region+1), slot)
			wantState(t, r, g.Regions-1-region, slotsOf(g)-slot, page+1)
		}
		wantPages(t, r, l)
		for range 3 {
			wantNoAppend(t, r, part(n+1, "more"), api.ErrFull)
		}
		wantPages(t, r, l)
		wantState(t, r, 0, 0, g.Pages*g.Regions)
		wantRegion(t, r, g.Regions-1, uint32(g.Regions), slotsOf(g))
	}
}

// TestP1201TheLastSlotOfARegion: the next region is opened by the one that needs it, not ahead of it.
func TestP1201TheLastSlotOfARegion(t *testing.T) {
	for _, g := range sizes() {
		if t.Failed() {
			return
		}
		slots := slotsOf(g)
		r := over(t, g, "", 1, taken{1, 9, slots - 1})
		wantAppend(t, r, part(1, "last"), g.Pages+slots)
		wantPages(t, r, map[int]api.Frame{g.Pages + slots: part(1, "last")})
		wantState(t, r, g.Regions-1, 0, 1)
		wantAppend(t, r, part(2, "next"), 2*g.Pages+1)
		wantPages(t, r, map[int]api.Frame{g.Pages + slots: part(1, "last"), 2 * g.Pages: head(10, 2), 2*g.Pages + 1: part(2, "next")})
		wantState(t, r, g.Regions-2, slots-1, 3)
		wantRegion(t, r, 1, 9, slots)
		wantRegion(t, r, 2, 10, 1)
	}
}

// TestP1201InTheOpenRegion: behind the slots that are used, whatever stands there; no head is written.
func TestP1201InTheOpenRegion(t *testing.T) {
	for _, g := range sizes() {
		if t.Failed() {
			return
		}
		for _, region := range []int{0, 1, g.Regions - 1} {
			for used := range slotsOf(g) {
				r := over(t, g, "", region, taken{region, 9, used})
				page := region*g.Pages + used + 1
				wantAppend(t, r, part(3, "t"), page)
				wantPages(t, r, map[int]api.Frame{page: part(3, "t")})
				wantRegion(t, r, region, 9, used+1)
				wantState(t, r, g.Regions-1, slotsOf(g)-used-1, 1)
			}
		}
	}
}

// TestP1201InTheNextRegion: which one is opened, with which epoch, is the account's to say, and stands in the head.
func TestP1201InTheNextRegion(t *testing.T) {
	g := api.Geom{Page: 40, Pages: 4, Regions: 6}
	for _, c := range []struct {
		l      []taken
		open   int
		region int
		epoch  uint32
	}{
		{[]taken{{0, 1, 0}}, none, 1, 2}, {[]taken{{5, 1, 0}}, none, 0, 2}, {[]taken{{5, 1, 3}}, 5, 0, 2}, {[]taken{{2, 300, 3}, {3, 9, 1}}, 2, 4, 301}, {[]taken{{2, 300, 3}, {3, 9, 1}}, none, 4, 301},
		{[]taken{{4, 70000, 3}, {5, 3, 0}, {0, 2, 0}}, 4, 1, 70001}, {[]taken{{1, 8, 2}, {3, 8, 2}}, none, 2, 9}, {[]taken{{3, 8, 3}, {1, 8, 3}}, 3, 2, 9}, {[]taken{{3, maxSeq - 1, 3}}, 3, 4, maxSeq}, {[]taken{{1, 1 << 24, 0}}, none, 2, 1<<24 + 1},
	} {
		r := over(t, g, "", c.open, c.l...)
		page := c.region * g.Pages
		wantAppend(t, r, part(3, "t"), page+1)
		wantPages(t, r, map[int]api.Frame{page: head(c.epoch, c.region), page + 1: part(3, "t")})
		wantRegion(t, r, c.region, c.epoch, 1)
		for _, x := range c.l {
			wantRegion(t, r, x.region, x.epoch, x.used)
		}
		wantState(t, r, g.Regions-1-len(c.l), slotsOf(g)-1, 2)
	}
}

// TestP1201WithTheAccountThatIsHandedIn: what others do with the account and the device counts, too.
func TestP1201WithTheAccountThatIsHandedIn(t *testing.T) {
	r := over(t, odd(), "", none)
	r.c.Open()
	wantAppend(t, r, part(1, "a"), 1)
	r.c.Take()
	wantAppend(t, r, part(2, "b"), 3)
	r.c.Open()
	wantAppend(t, r, part(3, "c"), 8)
	wantCode(t, "Erase", r.c.Erase(0), ok)
	wantCode(t, "Set", r.c.Set(0, 90, 0), ok)
	wantAppend(t, r, part(4, "d"), 9)
	wantPages(t, r, map[int]api.Frame{1: part(1, "a"), 3: part(2, "b"), 8: part(3, "c"), 9: part(4, "d")})
	wantState(t, r, 3, 4, 4)
	other := New(r.f, r.c)
	wantAppend(t, rig{r.f, r.c, other}, part(5, "e"), 10)
	wantAppend(t, r, part(6, "f"), 11)
	wantCode(t, "Flush", other.Flush(), ok)
	wantState(t, r, 3, 2, 0)
}

// TestP1201FullWhereNoneIsFree: nothing is written, taken or opened, whether one is open or none is.
func TestP1201FullWhereNoneIsFree(t *testing.T) {
	add := func(x *Tape) (int, api.Code) { return x.Append(part(1, "t")) }
	for _, g := range sizes() {
		last := g.Regions - 1
		for _, open := range []int{none, last} {
			for _, first := range []uint32{1, 9, maxSeq - uint32(last)} {
				wantNothingDone(t, "Append where all is full", func() rig { return over(t, g, "", open, all(g, first, slotsOf(g))...) }, api.ErrFull, add)
			}
		}
		wantNothingDone(t, "Append where none is free or open", func() rig { return over(t, g, "", none, all(g, 9, 0)...) }, api.ErrFull, add)
	}
}

// TestP1201FullAtTheGreatestEpoch: none can be opened, though some are free.
func TestP1201FullAtTheGreatestEpoch(t *testing.T) {
	add := func(x *Tape) (int, api.Code) { return x.Append(part(1, "t")) }
	for _, g := range sizes() {
		slots := slotsOf(g)
		for _, open := range []int{none, 1} {
			wantNothingDone(t, "Append at the greatest epoch", func() rig { return over(t, g, "", open, taken{1, maxSeq, slots}) }, api.ErrFull, add)
		}
		wantNothingDone(t, "Append behind the greatest epoch", func() rig { return over(t, g, "", none, taken{0, maxSeq, 0}, taken{1, 3, 0}) }, api.ErrFull, add)
		r := over(t, g, "", 1, taken{1, maxSeq - 1, slots})
		wantAppend(t, r, part(1, "t"), 2*g.Pages+1)
		wantRegion(t, r, 2, maxSeq, 1)
		for slot := 2; slot <= slots; slot++ {
			wantAppend(t, r, part(1, "t"), 2*g.Pages+slot)
		}
		wantNoAppend(t, r, part(1, "t"), api.ErrFull)
		wantState(t, r, g.Regions-2, 0, slots+1)
		wantCode(t, "Erase", r.t.Erase(1), ok)
		wantNoAppend(t, r, part(1, "t"), api.ErrFull)
	}
}

// TestP1201OnOnceARegionIsErased goes round and round, as a log does.
func TestP1201OnOnceARegionIsErased(t *testing.T) {
	for _, g := range append(sizes(), api.Geom{Page: 33, Pages: 4, Regions: 9}) {
		if t.Failed() {
			return
		}
		r, slots := over(t, g, "", none), slotsOf(g)
		for i := range 4*g.Regions + 3 {
			region, epoch := i%g.Regions, uint32(i+1)
			if i >= g.Regions {
				wantNoAppend(t, r, part(epoch, "t"), api.ErrFull)
				wantCode(t, "Erase", r.t.Erase(region), ok)
				wantState(t, r, 1, 0, 0)
			}
			for slot := 1; slot <= slots; slot++ {
				wantAppend(t, r, part(epoch, full(byte(slot), slot)), region*g.Pages+slot)
			}
			wantRegion(t, r, region, epoch, slots)
			if got, _ := r.f.Read(region * g.Pages); got != pageOf(t, g, head(epoch, region)) {
				t.Errorf("%+v: head of region %d at epoch %d: %q", g, region, epoch, got)
			}
			wantCode(t, "Flush", r.t.Flush(), ok)
		}
	}
}

// TestP1201AnyFrameThatHasBytes: of what it says nothing is asked, a head among the slots or an empty Part is one too.
func TestP1201AnyFrameThatHasBytes(t *testing.T) {
	for _, g := range sizes() {
		if t.Failed() {
			return
		}
		for kind := 1; kind <= 4; kind++ {
			for _, size := range []int{0, 1, 15, 16, 17, roomOf(g) - 1, roomOf(g)} {
				for _, n := range []uint32{0, 1, maxSeq, maxSeq + 1, math.MaxUint32} {
					r := over(t, g, "", none)
					x := api.Frame{Kind: kind, A: n, B: n + 1, Body: full(255, size)}
					wantAppend(t, r, x, 1)
					wantPages(t, r, map[int]api.Frame{0: head(1, 0), 1: x})
				}
			}
		}
	}
}

// TestP1201FramesThatMayNotBe: ahead of all else, so that nothing is written, taken or opened for them.
func TestP1201FramesThatMayNotBe(t *testing.T) {
	for _, g := range sizes() {
		if t.Failed() {
			return
		}
		long := full('x', roomOf(g)+1)
		for i, made := range situations(t, g) {
			for _, c := range []struct {
				x    api.Frame
				code api.Code
			}{
				{api.Frame{}, api.ErrForm}, {api.Frame{Kind: 5, A: 1}, api.ErrForm}, {api.Frame{Kind: -1, A: 1}, api.ErrForm}, {api.Frame{Kind: 256 + 2, A: 1}, api.ErrForm}, {api.Frame{Kind: 5, Body: long}, api.ErrForm},
				{api.Frame{Kind: 1, A: 1, Body: long}, api.ErrLong}, {part(1, long), api.ErrLong}, {api.Frame{Kind: 4, Body: full(0, 300)}, api.ErrLong},
			} {
				wantNothingDone(t, fmt.Sprintf("%d: Append(%+v)", i, c.x), made, c.code, func(x *Tape) (int, api.Code) { return x.Append(c.x) })
			}
		}
	}
}

// TestP1201AFirstPageThatIsNotBlank: the region is opened, and that is all; a byte of the page is enough.
func TestP1201AFirstPageThatIsNotBlank(t *testing.T) {
	for _, g := range sizes() {
		for _, at := range []int{0, 1, g.Page - 1} {
			image := spot(g, 2*g.Pages, at)
			r := over(t, g, image, 1, taken{1, 9, slotsOf(g)})
			wantNoAppend(t, r, part(1, "t"), api.ErrState)
			wantRegion(t, r, 1, 9, slotsOf(g))
			wantRegion(t, r, 2, 10, 0)
			wantState(t, r, g.Regions-2, slotsOf(g), 0)
			if got := r.f.Image(); got[:len(image)] != image || !frame.Blank(got[len(image):]) {
				t.Errorf("%+v: the Image has changed", g)
			}
		}
	}
}

// TestP1201ASlotThatIsNotBlank: its slot is used, and nothing is written there; of a region that is new the head is.
func TestP1201ASlotThatIsNotBlank(t *testing.T) {
	for _, g := range sizes() {
		if t.Failed() {
			return
		}
		for _, at := range []int{0, 1, g.Page - 1} {
			for used := range slotsOf(g) {
				page := g.Pages + used + 1
				r := over(t, g, spot(g, page, at), 1, taken{1, 9, used})
				wantNoAppend(t, r, part(1, "t"), api.ErrState)
				wantRegion(t, r, 1, 9, used+1)
				wantState(t, r, g.Regions-1, slotsOf(g)-used-1, 0)
			}
			r := over(t, g, spot(g, 1, at), none)
			wantNoAppend(t, r, part(1, "t"), api.ErrState)
			wantRegion(t, r, 0, 1, 1)
			wantState(t, r, g.Regions-1, slotsOf(g)-1, 1)
			if got, _ := r.f.Read(0); got != pageOf(t, g, head(1, 0)) {
				t.Errorf("%+v: the head ahead of the slot is %q", g, got)
			}
		}
	}
}

// TestP1201APageThatIsPending is one that others have written.
func TestP1201APageThatIsPending(t *testing.T) {
	g := odd()
	r := over(t, g, "", 1, taken{1, 9, 1})
	wantCode(t, "Program", r.f.Program(7+2, full('x', g.Page)), ok)
	wantNoAppend(t, r, part(1, "t"), api.ErrState)
	wantRegion(t, r, 1, 9, 2)
	wantState(t, r, 4, 4, 1)
	r = over(t, g, "", 1, taken{1, 9, 6})
	wantCode(t, "Program", r.f.Program(14, full('x', g.Page)), ok)
	wantNoAppend(t, r, part(1, "t"), api.ErrState)
	wantRegion(t, r, 2, 10, 0)
	wantState(t, r, 3, 6, 1)
}

// TestP1201OfADeviceThatIsDown: what stands ahead of the device's call is done.
func TestP1201OfADeviceThatIsDown(t *testing.T) {
	for _, g := range sizes() {
		made := func(open int, l ...taken) rig {
			r := over(t, g, "", open, l...)
			r.f.Fuse(0)
			wantCode(t, "the device's Flush", r.f.Flush(), api.ErrDown)
			return r
		}
		r := made(1, taken{0, 8, 1}, taken{1, 9, 1})
		wantNoAppend(t, r, part(1, "t"), api.ErrDown)
		wantRegion(t, r, 1, 9, 2)
		wantState(t, r, g.Regions-2, slotsOf(g)-2, 0)
		r = made(none)
		wantNoAppend(t, r, part(1, "t"), api.ErrDown)
		wantRegion(t, r, 0, 1, 0)
		wantState(t, r, g.Regions-1, slotsOf(g), 0)
		wantCode(t, "Flush", made(none).t.Flush(), api.ErrDown)
		r = made(1, taken{0, 8, 1}, taken{1, 9, 1})
		wantCode(t, "Erase", r.t.Erase(0), api.ErrDown)
		wantRegion(t, r, 0, 8, 1)
		wantState(t, r, g.Regions-2, slotsOf(g)-1, 0)
	}
}

// TestP1201FlushIsTheDevices: all that is pending is done, by others too; the account is as it was.
func TestP1201FlushIsTheDevices(t *testing.T) {
	for _, g := range sizes() {
		for i, made := range situations(t, g) {
			for name, ahead := range set() {
				r, b := made(), made()
				for _, x := range []rig{r, b} {
					x.f.Program(g.Pages*g.Regions-1, full('x', g.Page))
					ahead(x.f)
				}
				wantCode(t, fmt.Sprint("Flush ", i, name), r.t.Flush(), b.f.Flush())
				if goneOn(r) != goneOn(b) {
					t.Errorf("%+v: Flush %d, %s is not the device's", g, i, name)
				}
			}
		}
	}
}

// TestP1201EraseEachTakenOne makes a region blank, and free, and nothing else.
func TestP1201EraseEachTakenOne(t *testing.T) {
	for _, g := range sizes() {
		n, last := g.Pages*g.Page, g.Regions-1
		image := full('x', n*g.Regions)
		for _, open := range []int{none, last} {
			for region := range g.Regions {
				if region == open {
					continue
				}
				r := over(t, g, image, open, all(g, 9, 1)...)
				left := r.c.Left()
				wantCode(t, "Erase", r.t.Erase(region), ok)
				if r.f.Image() != image[:n*region]+full(255, n)+image[n*(region+1):] {
					t.Errorf("%+v: Erase(%d): the Image is another", g, region)
				}
				for _, x := range all(g, 9, 1) {
					if x.region == region {
						x = taken{region: region}
					}
					wantRegion(t, r, x.region, x.epoch, x.used)
				}
				wantState(t, r, 1, left, 0)
				wantCode(t, "Erase once more", r.t.Erase(region), api.ErrState)
			}
		}
	}
}

// TestP1201EraseIsOneCall of the device.
func TestP1201EraseIsOneCall(t *testing.T) {
	r := over(t, odd(), "", none, all(odd(), 9, 1)...)
	r.f.Fuse(2)
	wantCode(t, "Erase", r.t.Erase(0), ok)
	wantCode(t, "Erase", r.t.Erase(3), ok)
	wantCode(t, "Erase", r.t.Erase(1), api.ErrDown)
	wantRegion(t, r, 1, 10, 1)
	wantState(t, r, 2, 0, 7)
}

// TestP1201EraseOfWrongOnes: what the account refuses, the device is not asked for, and does not lack.
func TestP1201EraseOfWrongOnes(t *testing.T) {
	erase := func(region int) func(*Tape) (int, api.Code) {
		return func(x *Tape) (int, api.Code) { return 0, x.Erase(region) }
	}
	for _, g := range sizes() {
		if t.Failed() {
			return
		}
		for i, made := range situations(t, g) {
			r := made()
			for _, region := range outside(g.Regions) {
				wantNothingDone(t, fmt.Sprint(i, ": Erase of none such ", region), made, api.ErrArg, erase(region))
			}
			for region := range g.Regions {
				if r.c.Epoch(region) == 0 {
					wantNothingDone(t, fmt.Sprint(i, ": Erase of a free one ", region), made, api.ErrState, erase(region))
				} else if made().c.Erase(region) == api.ErrState {
					wantNothingDone(t, fmt.Sprint(i, ": Erase of the open one ", region), made, api.ErrState, erase(region))
				}
			}
		}
	}
	r := over(t, odd(), "", none)
	wantAppend(t, r, part(1, "t"), 1)
	wantCode(t, "Flush", r.t.Flush(), ok)
	wantCode(t, "Erase of what Append has opened", r.t.Erase(0), api.ErrState)
	wantPages(t, r, map[int]api.Frame{0: head(1, 0), 1: part(1, "t")})
}

// TestP1201EraseThatTheDeviceRefuses, since a page is pending: the account is as it was.
func TestP1201EraseThatTheDeviceRefuses(t *testing.T) {
	for _, g := range sizes() {
		for _, open := range []int{none, 2} {
			for region := range 2 {
				for _, page := range []int{0, 1, g.Pages - 1} {
					made := func() rig {
						r := over(t, g, "", open, taken{0, 7, 0}, taken{1, 8, slotsOf(g)}, taken{2, 9, 1})
						wantCode(t, "Program", r.f.Program(region*g.Pages+page, full('x', g.Page)), ok)
						return r
					}
					a, b := made(), made()
					wantCode(t, "Erase", a.t.Erase(region), api.ErrState)
					if goneOn(a) != goneOn(b) {
						t.Errorf("%+v: Erase(%d) that was refused has changed something", g, region)
					}
				}
			}
		}
	}
}

// TestP1201EraseThatBlows: of the region each page is pending as a blank one; the account is as it was.
func TestP1201EraseThatBlows(t *testing.T) {
	for _, g := range sizes() {
		for _, open := range []int{none, 2} {
			for region := range 2 {
				made := func() rig {
					return over(t, g, full('x', g.Page*g.Pages*g.Regions), open, taken{0, 7, 0}, taken{1, 8, slotsOf(g)}, taken{2, 9, 1})
				}
				a, b := made(), made()
				a.f.Fuse(0)
				b.f.Fuse(0)
				wantCode(t, "Erase", a.t.Erase(region), api.ErrDown)
				wantCode(t, "the device's Erase", b.f.Erase(region), api.ErrDown)
				wantState(t, a, g.Regions-3, b.c.Left(), g.Pages)
				if goneOn(a) != goneOn(b) {
					t.Errorf("%+v: Erase(%d) that blew is not the device's alone", g, region)
				}
			}
		}
	}
}

func TestP1201NilTape(t *testing.T) {
	var x *Tape
	for range 2 {
		for _, f := range []api.Frame{{}, part(1, "t"), head(1, 0), part(1, full('x', 300)), {Kind: 9}} {
			if page, code := x.Append(f); page != 0 || code != api.ErrArg {
				t.Errorf("Append(%+v): %d %d", f, page, code)
			}
		}
		wantCode(t, "Flush", x.Flush(), api.ErrArg)
		for _, region := range append(outside(12), 0, 1, 11) {
			wantCode(t, "Erase", x.Erase(region), api.ErrArg)
		}
	}
}

// TestP1201TapesOfNothing are over a device and an account that nobody made, or made by nobody; that nothing panics is all.
func TestP1201TapesOfNothing(t *testing.T) {
	for _, x := range []*Tape{{}, New(&flash.Flash{}, &chart.Chart{})} {
		wantNoAppend(t, rig{t: x}, part(1, "t"), api.ErrArg)
		for _, region := range append(outside(12), 0, 1, 11) {
			wantCode(t, "Erase", x.Erase(region), api.ErrArg)
		}
		x.Flush()
	}
}

// move is what a call of a tape does next, to a device and an account.
type move func(f *flash.Flash, c *chart.Chart) api.Code

// step is a call of a tape, the page that it tells, and what it does until a code is not OK.
type step struct {
	name  string
	call  func(x *Tape) (int, api.Code)
	page  int
	moves []move
}

func opened(f *flash.Flash, c *chart.Chart) api.Code {
	region, epoch, is := c.Open()
	if !is {
		return api.ErrFull
	}
	b, _ := frame.Bytes(f.Geom(), head(epoch, region))
	return f.Program(region*f.Geom().Pages, b)
}

func flushed(f *flash.Flash, c *chart.Chart) api.Code { return f.Flush() }

// appended is an Append that needs a new region, or none.
func appended(g api.Geom, x api.Frame, page int, fresh bool) step {
	write := func(f *flash.Flash, c *chart.Chart) api.Code {
		c.Take()
		b, _ := frame.Bytes(g, x)
		return f.Program(page, b)
	}
	s := step{fmt.Sprint("Append to ", page), func(t *Tape) (int, api.Code) { return t.Append(x) }, page, []move{write}}
	if fresh {
		s.moves = []move{opened, write}
	}
	return s
}

func erased(region int) step {
	return step{fmt.Sprint("Erase ", region), func(t *Tape) (int, api.Code) { return 0, t.Erase(region) }, 0, []move{
		func(f *flash.Flash, c *chart.Chart) api.Code { return f.Erase(region) },
		func(f *flash.Flash, c *chart.Chart) api.Code { return c.Erase(region) },
	}}
}

// wholeRun fills a device, gives its first regions up one by one, and goes on there.
func wholeRun(g api.Geom) []step {
	flush := step{"Flush", func(t *Tape) (int, api.Code) { return 0, t.Flush() }, 0, []move{flushed}}
	var l []step
	for round := range 2 {
		for region := range g.Regions {
			if round > 0 {
				l = append(l, erased(region))
			}
			for slot := 1; slot < g.Pages; slot++ {
				l = append(l, appended(g, part(uint32(slot), fmt.Sprint(region)), region*g.Pages+slot, slot == 1))
				if slot%2 == 0 {
					l = append(l, flush)
				}
			}
		}
		l = append(l, flush)
	}
	return l
}

// did is what a step must do to a device and an account.
func (s step) did(f *flash.Flash, c *chart.Chart) (int, api.Code) {
	for _, do := range s.moves {
		if code := do(f, c); code != ok {
			return 0, code
		}
	}
	return s.page, ok
}

// wantCut does the run with that fuse, up to the step that blows, and holds each one against what it must do.
// It tells whether one blew.
func wantCut(t *testing.T, g api.Geom, l []step, fuse int) bool {
	t.Helper()
	a, b := over(t, g, "", none), over(t, g, "", none)
	a.f.Fuse(fuse)
	b.f.Fuse(fuse)
	for i, s := range l {
		page, code := s.call(a.t)
		wantPage, want := s.did(b.f, b.c)
		if page != wantPage || code != want || look(a.f, a.c) != look(b.f, b.c) {
			t.Errorf("%+v, fuse of %d, step %d, %s: %d %d, not %d %d, or what is there is another", g, fuse, i, s.name, page, code, wantPage, want)
			return false
		}
		if code == api.ErrDown {
			if goneOn(a) != goneOn(b) {
				t.Errorf("%+v, fuse of %d, step %d, %s: it goes on in another way", g, fuse, i, s.name)
			}
			return true
		}
	}
	return false
}

// TestP1201CutAtEachCall cuts a run at each of its calls of the device.
func TestP1201CutAtEachCall(t *testing.T) {
	for _, g := range []api.Geom{small(), odd(), {Page: 64, Pages: 4, Regions: 6}} {
		l := wholeRun(g)
		fuse := 0
		for wantCut(t, g, l, fuse) {
			fuse++
		}
		calls := 0
		for _, s := range l {
			calls += len(s.moves)
			if len(s.moves) == 2 && s.page == 0 { // of an Erase the device is asked once
				calls--
			}
		}
		if fuse != calls {
			t.Errorf("%+v: the run has %d calls of the device, not %d", g, fuse, calls)
		}
	}
}

// dice tells numbers one after the other, from a seed, the same ones each time.
type dice uint32

func (d *dice) roll(n int) int {
	*d = *d*1664525 + 1013904223
	return int(uint64(*d) * uint64(n) >> 32)
}

// frame is one that may be most times.
func (d *dice) frame(g api.Geom) api.Frame {
	switch d.roll(12) {
	case 0:
		return api.Frame{Kind: 5 * d.roll(2), A: 1, Body: "t"}
	case 1:
		return part(1, full('x', roomOf(g)+d.roll(3)))
	}
	return api.Frame{Kind: 1 + d.roll(4), A: uint32(d.roll(9)), B: uint32(d.roll(9)), Body: full(byte(d.roll(256)), d.roll(roomOf(g)+1))}
}

// image is a blank one most times, and else one with a page that is not.
func (d *dice) image(g api.Geom) string {
	if d.roll(3) > 0 {
		return ""
	}
	return spot(g, d.roll(g.Pages*g.Regions), d.roll(g.Page))
}

// taken are some regions with epochs that lie near one another, and which one of the newest is open.
func (d *dice) taken(g api.Geom) (open int, l []taken) {
	open = none
	first, newest := []uint32{1, 1, 9, maxSeq - 6}[d.roll(4)], uint32(0)
	for region := range g.Regions {
		if d.roll(3) > 0 {
			continue
		}
		x := taken{region, first + uint32(d.roll(5)), d.roll(g.Pages)}
		if x.epoch > newest {
			open, newest = region, x.epoch
		}
		l = append(l, x)
	}
	if d.roll(3) == 0 {
		open = none
	}
	return open, l
}

// plain is a tape with its device and its account in another form.
type plain struct {
	g     api.Geom
	done  []string // of each page
	row   []int    // of the pages that are pending
	new   []string // of each of these
	taken map[int]taken
	open  int
	fuse  int // calls that are done yet, below 0: all
	down  bool
}

func plainOf(g api.Geom, image string, open int, l []taken) *plain {
	p := &plain{g: g, taken: map[int]taken{}, open: open, fuse: -1}
	image += full(255, g.Page*g.Pages*g.Regions-len(image))
	for ; image != ""; image = image[g.Page:] {
		p.done = append(p.done, image[:g.Page])
	}
	for _, x := range l {
		p.taken[x.region] = x
	}
	return p
}

// blown says of a call that is not refused whether it is the one that blows.
func (p *plain) blown() bool {
	p.down = p.down || p.fuse == 0
	p.fuse = max(p.fuse-1, -1)
	return p.down
}

func (p *plain) isPending(page int) bool {
	for _, x := range p.row {
		if x == page {
			return true
		}
	}
	return false
}

// write is what the device must do with a page.
func (p *plain) write(page int, b string) api.Code {
	switch {
	case p.down:
		return api.ErrDown
	case p.isPending(page) || p.done[page] != full(255, p.g.Page):
		return api.ErrState
	}
	p.row, p.new = append(p.row, page), append(p.new, b)
	if p.blown() {
		return api.ErrDown
	}
	return ok
}

// newest is the greatest epoch, and the first region that has it.
func (p *plain) newest() (region int, epoch uint32) {
	for i := p.g.Regions - 1; i >= 0; i-- {
		if x := p.taken[i]; x.epoch > 0 && x.epoch >= epoch {
			region, epoch = i, x.epoch
		}
	}
	return region, epoch
}

// next opens a region.
func (p *plain) next() api.Code {
	region, epoch := p.newest()
	if len(p.taken) == p.g.Regions || epoch == maxSeq {
		return api.ErrFull
	}
	for p.taken[region].epoch > 0 {
		if region++; region == p.g.Regions {
			region = 0
		}
	}
	p.taken[region], p.open = taken{region, epoch + 1, 0}, region
	b, _ := frame.Bytes(p.g, head(epoch+1, region))
	return p.write(region*p.g.Pages, b)
}

func (p *plain) append(x api.Frame) (int, api.Code) {
	if x.Kind < 1 || x.Kind > 4 {
		return 0, api.ErrForm
	}
	if len(x.Body)+15 > p.g.Page {
		return 0, api.ErrLong
	}
	if p.open == none || p.taken[p.open].used+1 == p.g.Pages {
		if code := p.next(); code != ok {
			return 0, code
		}
	}
	at := p.taken[p.open]
	at.used++
	p.taken[p.open] = at
	page := p.open*p.g.Pages + at.used
	b, _ := frame.Bytes(p.g, x)
	if code := p.write(page, b); code != ok {
		return 0, code
	}
	return page, ok
}

func (p *plain) flush() api.Code {
	if p.down || p.blown() {
		return api.ErrDown
	}
	for i, page := range p.row {
		p.done[page] = p.new[i]
	}
	p.row, p.new = nil, nil
	return ok
}

func (p *plain) erase(region int) api.Code {
	switch {
	case region < 0 || region >= p.g.Regions:
		return api.ErrArg
	case p.taken[region].epoch == 0 || region == p.open:
		return api.ErrState
	case p.down:
		return api.ErrDown
	}
	first, end := region*p.g.Pages, (region+1)*p.g.Pages
	for page := first; page < end; page++ {
		if p.isPending(page) {
			return api.ErrState
		}
	}
	blown := p.blown()
	for page := first; page < end; page++ {
		if blown {
			p.row, p.new = append(p.row, page), append(p.new, full(255, p.g.Page))
		} else {
			p.done[page] = full(255, p.g.Page)
		}
	}
	if blown {
		return api.ErrDown
	}
	delete(p.taken, region)
	return ok
}

// isAlike says whether on the device and in the account stands what the other form has.
func isAlike(r rig, p *plain) bool {
	left := 0
	if p.open != none {
		left = p.g.Pages - 1 - p.taken[p.open].used
	}
	is := r.f.Image() == strings.Join(p.done, "") && r.f.Down() == p.down && r.f.Pending() == len(p.row)
	is = is && r.c.Free() == p.g.Regions-len(p.taken) && r.c.Left() == left
	for region := range p.g.Regions {
		is = is && r.c.Epoch(region) == p.taken[region].epoch && r.c.Used(region) == p.taken[region].used
	}
	for i, page := range p.row {
		text, code := r.f.Read(page)
		is = is && (p.down && code == api.ErrDown || code == ok && text == p.new[i])
	}
	return is
}

// called does a call that the dice tell in both forms, and names it.
func called(d *dice, r rig, p *plain) (name string, page int, got api.Code, wantPage int, want api.Code) {
	switch n := d.roll(10); {
	case n < 6:
		x := d.frame(p.g)
		name = fmt.Sprintf("Append(%+v)", x)
		page, got = r.t.Append(x)
		wantPage, want = p.append(x)
	case n < 8:
		name, got, want = "Flush", r.t.Flush(), p.flush()
	default:
		region := d.roll(p.g.Regions+2) - 1
		name, got, want = fmt.Sprint("Erase ", region), r.t.Erase(region), p.erase(region)
	}
	return name, page, got, wantPage, want
}

// TestP1201AsTheDocumentSays holds runs of calls, by a fixed rule, against the other form, up to where nothing more is
// promised.
func TestP1201AsTheDocumentSays(t *testing.T) {
	codes, d := map[api.Code]int{}, dice(12)
	geoms := append(layouts(), small(), small(), odd())
	for run := range 6000 {
		g := geoms[d.roll(len(geoms))]
		image := d.image(g)
		open, l := d.taken(g)
		r, p := over(t, g, image, open, l...), plainOf(g, image, open, l)
		if d.roll(2) == 0 {
			p.fuse = d.roll(30)
			r.f.Fuse(p.fuse)
		}
		for i := range 60 {
			name, page, got, wantPage, want := called(&d, r, p)
			codes[got]++
			if page != wantPage || got != want || !isAlike(r, p) {
				t.Fatalf("run %d of %+v with %v, %d open, fuse of %d, call %d, %s: %d %d, not %d %d, or what is there is another", run, g, l, open, p.fuse, i, name, page, got, wantPage, want)
			}
			if got == api.ErrDown || got == api.ErrState && strings.HasPrefix(name, "Append") {
				break
			}
		}
	}
	for _, code := range []api.Code{ok, api.ErrArg, api.ErrForm, api.ErrLong, api.ErrDown, api.ErrState, api.ErrFull} {
		if codes[code] < 100 {
			t.Errorf("code %d was met %d times", code, codes[code])
		}
	}
}

// stopped are tapes behind an ErrDown, of each call, or an ErrState of Program, at a head and at a slot.
func stopped(t *testing.T, g api.Geom) []rig {
	var l []rig
	for fuse := range 3 {
		r := over(t, g, "", none, taken{1, 9, 1})
		r.f.Fuse(fuse)
		r.t.Append(part(1, "t"))
		r.t.Flush()
		l = append(l, r)
	}
	r := over(t, g, full('x', g.Page*g.Pages*g.Regions), 1, taken{0, 8, 1}, taken{1, 9, 1})
	r.f.Fuse(0)
	wantCode(t, "Erase", r.t.Erase(0), api.ErrDown)
	l = append(l, r)
	for _, page := range []int{0, 1} {
		r := over(t, g, spot(g, page, 3), none)
		wantNoAppend(t, r, part(1, "t"), api.ErrState)
		l = append(l, r)
	}
	return l
}

// TestP1202CallsEnd behind an ErrDown or an ErrState of Program; of a device that is down each byte stays.
func TestP1202CallsEnd(t *testing.T) {
	for _, g := range sizes() {
		d := dice(g.Page)
		for i, r := range stopped(t, g) {
			if r.f.Down() != (i < 4) {
				t.Fatalf("%+v: tape %d: Down is %v", g, i, r.f.Down())
			}
			for range 3 {
				down, image, pending := r.f.Down(), r.f.Image(), r.f.Pending()
				for range 200 {
					r.t.Append(d.frame(g))
					r.t.Flush()
					r.t.Erase(d.roll(g.Regions+2) - 1)
					if down && (r.f.Image() != image || r.f.Pending() != pending || !r.f.Down()) {
						t.Fatalf("%+v: tape %d: the device that is down has changed", g, i)
					}
				}
				r.f.Crash([]int{1, 5, 0, 2})
			}
		}
	}
}
