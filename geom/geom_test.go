package geom

import (
	"math"
	"testing"

	"cachepot/api"
)

func of(page, pages, regions int) api.Geom {
	return api.Geom{Page: page, Pages: pages, Regions: regions}
}

// small and great are the least and the greatest device; known is that of the document's example.
func small() api.Geom { return of(32, 3, 4) }
func great() api.Geom { return of(128, 10, 12) }
func known() api.Geom { return of(32, 4, 4) }

// devices are all that are Right, by the document's limits as numbers.
func devices() []api.Geom {
	var l []api.Geom
	for page := 32; page <= 128; page++ {
		for pages := 3; pages <= 10; pages++ {
			for regions := 4; regions <= 12; regions++ {
				l = append(l, of(page, pages, regions))
			}
		}
	}
	return l
}

// sizes are numbers around least and most, and far from both; how many of the first are right is told too.
func sizes(least, most int) (l []int, right int) {
	l = []int{least, least + 1, (least + most) / 2, most - 1, most}
	wrong := []int{least - 1, most + 1, 0, 1, -1, -least, -most, 2 * most, math.MinInt32, math.MaxInt32, math.MinInt, math.MinInt + 1, math.MaxInt - 1, math.MaxInt}
	return append(l, wrong...), len(l)
}

// wrongDevices have one, two or three sizes that are none.
func wrongDevices() []api.Geom {
	a, rightA := sizes(32, 128)
	b, rightB := sizes(3, 10)
	c, rightC := sizes(4, 12)
	var l []api.Geom
	for i, page := range a {
		for j, pages := range b {
			for k, regions := range c {
				if i >= rightA || j >= rightB || k >= rightC {
					l = append(l, of(page, pages, regions))
				}
			}
		}
	}
	return l
}

func far() []int {
	return []int{math.MinInt, math.MinInt + 1, math.MinInt32, -1000, math.MaxInt32, math.MaxInt - 1, math.MaxInt}
}

func wantRight(t *testing.T, g api.Geom, want bool) {
	t.Helper()
	if got := Right(g); got != want {
		t.Errorf("Right(%+v): %v, not %v", g, got, want)
	}
}

func want(t *testing.T, what string, g api.Geom, got, want int) {
	t.Helper()
	if got != want {
		t.Errorf("%s of %+v: %d, not %d", what, g, got, want)
	}
}

func wantPage(t *testing.T, g api.Geom, region, slot, page int, ok bool) {
	t.Helper()
	gotPage, gotOk := Page(g, region, slot)
	if gotPage != page || gotOk != ok {
		t.Errorf("Page(%+v, %d, %d): %d %v, not %d %v", g, region, slot, gotPage, gotOk, page, ok)
	}
}

func wantWhere(t *testing.T, g api.Geom, page, region, slot int, ok bool) {
	t.Helper()
	gotRegion, gotSlot, gotOk := Where(g, page)
	if gotRegion != region || gotSlot != slot || gotOk != ok {
		t.Errorf("Where(%+v, %d): %d %d %v, not %d %d %v", g, page, gotRegion, gotSlot, gotOk, region, slot, ok)
	}
}

func wantNeed(t *testing.T, g api.Geom, n, want int) {
	t.Helper()
	if got := Need(g, n); got != want {
		t.Errorf("Need(%+v, %d): %d, not %d", g, n, got, want)
	}
}

// TestP601RightAtTheEdges turns one size at a time, of the least device, of the greatest and of one between.
func TestP601RightAtTheEdges(t *testing.T) {
	for _, g := range []api.Geom{small(), of(64, 5, 7), great()} {
		for _, x := range []struct {
			n    int
			want bool
		}{{31, false}, {32, true}, {33, true}, {127, true}, {128, true}, {129, false}} {
			wantRight(t, of(x.n, g.Pages, g.Regions), x.want)
		}
		for _, x := range []struct {
			n    int
			want bool
		}{{2, false}, {3, true}, {4, true}, {9, true}, {10, true}, {11, false}} {
			wantRight(t, of(g.Page, x.n, g.Regions), x.want)
		}
		for _, x := range []struct {
			n    int
			want bool
		}{{3, false}, {4, true}, {5, true}, {11, true}, {12, true}, {13, false}} {
			wantRight(t, of(g.Page, g.Pages, x.n), x.want)
		}
	}
}

func TestP601RightOfAll(t *testing.T) {
	for _, g := range devices() {
		wantRight(t, g, true)
	}
	for _, g := range wrongDevices() {
		wantRight(t, g, false)
	}
	wantRight(t, api.Geom{}, false)
}

// TestP601TheLimits: the numbers of these tests are those of the document's package.
func TestP601TheLimits(t *testing.T) {
	wantRight(t, of(api.MinPage, api.MinPages, api.MinRegions), true)
	wantRight(t, of(api.MaxPage, api.MaxPages, api.MaxRegions), true)
	want(t, "Room", small(), Room(small()), api.MinPage-api.Overhead)
}

func TestP601BytesRoomSlotsKnown(t *testing.T) {
	for _, x := range []struct {
		g                  api.Geom
		bytes, room, slots int
	}{
		{small(), 384, 17, 2}, {known(), 512, 17, 3}, {great(), 15360, 113, 9}, {of(33, 3, 4), 396, 18, 2}, {of(32, 3, 5), 480, 17, 2}, {of(100, 7, 9), 6300, 85, 6},
	} {
		want(t, "Bytes", x.g, Bytes(x.g), x.bytes)
		want(t, "Room", x.g, Room(x.g), x.room)
		want(t, "Slots", x.g, Slots(x.g), x.slots)
	}
}

// TestP601CountedOneByOne: the pages of all regions in their row are 0, 1, .., each once; all the bytes are theirs.
func TestP601CountedOneByOne(t *testing.T) {
	for _, g := range devices() {
		page, bytes := 0, 0
		for region := range g.Regions {
			wantPage(t, g, region, -1, 0, false)
			for slot := range Slots(g) + 1 {
				wantPage(t, g, region, slot, page, true)
				wantWhere(t, g, page, region, slot, true)
				page++
				bytes += Room(g) + 15
			}
			wantPage(t, g, region, Slots(g)+1, 0, false)
		}
		wantPage(t, g, -1, 0, 0, false)
		wantPage(t, g, g.Regions, 0, 0, false)
		wantWhere(t, g, -1, 0, 0, false)
		wantWhere(t, g, page, 0, 0, false)
		want(t, "Bytes", g, Bytes(g), bytes)
	}
}

func TestP601PageKnown(t *testing.T) {
	for _, x := range []struct {
		g                  api.Geom
		region, slot, page int
	}{
		{known(), 0, 0, 0}, {known(), 0, 1, 1}, {known(), 0, 3, 3}, {known(), 1, 0, 4}, {known(), 2, 1, 9}, {known(), 3, 0, 12}, {known(), 3, 3, 15},
		{small(), 0, 2, 2}, {small(), 1, 0, 3}, {small(), 3, 2, 11}, {great(), 0, 9, 9}, {great(), 1, 0, 10}, {great(), 11, 0, 110}, {great(), 11, 9, 119},
	} {
		wantPage(t, x.g, x.region, x.slot, x.page, true)
		wantWhere(t, x.g, x.page, x.region, x.slot, true)
	}
}

// TestP601PageOfNone: a slot outside does not reach into the next region, nor into the one ahead, though a page of the
// number that it would come to is there.
func TestP601PageOfNone(t *testing.T) {
	for _, x := range []struct{ region, slot int }{
		{0, 4}, {1, 4}, {2, 7}, {3, 4}, {4, 0}, {4, -1}, {5, -4}, {0, -1}, {1, -1}, {3, -1}, {-1, 0}, {-1, 3}, {-1, 4}, {-1, 5}, {-1, -1}, {4, 4}, {0, 12}, {12, 0},
	} {
		wantPage(t, known(), x.region, x.slot, 0, false)
	}
	for _, g := range []api.Geom{small(), known(), great()} {
		for _, n := range far() {
			wantPage(t, g, n, 0, 0, false)
			wantPage(t, g, n, 1, 0, false)
			wantPage(t, g, 0, n, 0, false)
			wantPage(t, g, g.Regions-1, n, 0, false)
			for _, m := range far() {
				wantPage(t, g, n, m, 0, false)
			}
		}
	}
}

// TestP601PageThatWrapsRound: the products of these regions wrap round to pages that are there.
func TestP601PageThatWrapsRound(t *testing.T) {
	wantPage(t, known(), math.MinInt, 1, 0, false)
	wantPage(t, known(), math.MaxInt/2+1, 1, 0, false)
	wantPage(t, known(), math.MaxInt, 7, 0, false)
	wantPage(t, of(32, 8, 4), math.MinInt/4, 2, 0, false)
}

func TestP601WhereOfNone(t *testing.T) {
	for _, g := range []api.Geom{small(), known(), great()} {
		last := g.Regions*g.Pages - 1
		wantWhere(t, g, 0, 0, 0, true)
		wantWhere(t, g, last, g.Regions-1, g.Pages-1, true)
		for _, n := range append(far(), -1, -2, -g.Pages, -last, last+1, last+2, 2*last, g.Regions*g.Pages*g.Page) {
			wantWhere(t, g, n, 0, 0, false)
		}
	}
}

// TestP601PageAndWhereAreEachOthersBack: for every page, and for every region and slot, those outside among them.
func TestP601PageAndWhereAreEachOthersBack(t *testing.T) {
	for _, g := range devices() {
		for page := -2; page < g.Regions*g.Pages+2; page++ {
			if region, slot, ok := Where(g, page); ok {
				wantPage(t, g, region, slot, page, true)
			}
		}
		for region := -1; region <= g.Regions; region++ {
			for slot := -1; slot <= g.Pages; slot++ {
				if page, ok := Page(g, region, slot); ok {
					wantWhere(t, g, page, region, slot, true)
				}
			}
		}
	}
}

// TestP601OfWrongDevices: of a device that is not Right there is nothing, whatever is asked.
func TestP601OfWrongDevices(t *testing.T) {
	for _, g := range append(wrongDevices(), api.Geom{}) {
		want(t, "Bytes", g, Bytes(g), 0)
		want(t, "Room", g, Room(g), 0)
		want(t, "Slots", g, Slots(g), 0)
		for _, n := range append(far(), -1, 0, 1, 2, 5, 12) {
			wantPage(t, g, 0, n, 0, false)
			wantPage(t, g, n, 0, 0, false)
			wantPage(t, g, n, n, 0, false)
			wantWhere(t, g, n, 0, 0, false)
		}
	}
}

func TestP602NeedKnown(t *testing.T) {
	for _, x := range []struct{ n, small, great int }{
		{0, 2, 2}, {1, 2, 2}, {16, 2, 2}, {17, 2, 2}, {18, 3, 2}, {34, 3, 2}, {35, 4, 2}, {112, 8, 2}, {113, 8, 2}, {114, 8, 3}, {226, 15, 3}, {227, 15, 4}, {1000, 60, 10},
		{1<<20 - 1, 61682, 9281}, {1 << 20, 61682, 9281}, {1<<20 + 1, 61682, 9281}, {1<<20 + 113, 61682, 9281}, {1 << 21, 61682, 9281},
	} {
		wantNeed(t, small(), x.n, x.small)
		wantNeed(t, known(), x.n, x.small)
		wantNeed(t, great(), x.n, x.great)
	}
}

// TestP602NeedHoldsAllAndNoMore: the parts have room for n bytes, and one part fewer has not; none is the same as one.
func TestP602NeedHoldsAllAndNoMore(t *testing.T) {
	for page := 32; page <= 128; page++ {
		g, room := of(page, 3, 4), page-15
		for _, n := range []int{1, 2, room - 1, room, room + 1, 2*room - 1, 2 * room, 2*room + 1, 7*room - 3, 100 * room, 100*room + 1, 1<<20 - 1, 1 << 20} {
			parts := Need(g, n) - 1
			if parts*room < n || (parts-1)*room >= n {
				t.Errorf("Need(%+v, %d): %d parts of %d", g, n, parts, room)
			}
		}
		wantNeed(t, g, 0, 2)
		wantNeed(t, g, room, 2)
		wantNeed(t, g, room+1, 3)
	}
}

func TestP602NeedOfAllBelow(t *testing.T) {
	for _, g := range []api.Geom{small(), of(64, 5, 7), great()} {
		room, parts := g.Page-15, 1
		for n := range 5000 {
			if n > parts*room {
				parts++
			}
			wantNeed(t, g, n, parts+1)
		}
	}
}

func TestP602NeedOfFarNumbers(t *testing.T) {
	for _, g := range devices() {
		most := Need(g, 1<<20)
		for _, n := range []int{-1, -2, -17, -18, -1 << 20, math.MinInt32, math.MinInt + 1, math.MinInt} {
			wantNeed(t, g, n, 2)
		}
		for _, n := range []int{1<<20 + 1, 1<<20 + 128, 1 << 21, 1 << 30, math.MaxInt32, math.MaxInt - 128, math.MaxInt - 1, math.MaxInt} {
			wantNeed(t, g, n, most)
		}
	}
}

// TestP602NeedHangsOnThePageAlone, not on how many there are.
func TestP602NeedHangsOnThePageAlone(t *testing.T) {
	for _, g := range devices() {
		for _, n := range []int{0, 18, 500, 1 << 20} {
			wantNeed(t, g, n, Need(of(g.Page, 3, 4), n))
		}
	}
}

func TestP602MostHeldKnown(t *testing.T) {
	for _, x := range []struct {
		g          api.Geom
		most, held int
	}{
		{small(), 2, 4}, {known(), 3, 6}, {great(), 81, 90}, {of(32, 3, 5), 4, 6}, {of(32, 10, 4), 9, 18}, {of(32, 3, 12), 18, 20}, {of(100, 7, 9), 36, 42}, {of(128, 3, 4), 2, 4},
	} {
		want(t, "Most", x.g, Most(x.g), x.most)
		want(t, "Held", x.g, Held(x.g), x.held)
	}
}

// TestP602MostHeldCounted: the slots of all regions but the first three, and but the first two.
func TestP602MostHeldCounted(t *testing.T) {
	for _, g := range devices() {
		most, held := 0, 0
		for page := range g.Regions * g.Pages {
			if page%g.Pages == 0 {
				continue
			}
			if page >= 3*g.Pages {
				most++
			}
			if page >= 2*g.Pages {
				held++
			}
		}
		want(t, "Most", g, Most(g), most)
		want(t, "Held", g, Held(g), held)
	}
}

func TestP602OfWrongDevices(t *testing.T) {
	for _, g := range append(wrongDevices(), api.Geom{}) {
		want(t, "Most", g, Most(g), 0)
		want(t, "Held", g, Held(g), 0)
		for _, n := range append(far(), -1, 0, 1, 5, 17, 18, 1<<20, 1<<20+1) {
			wantNeed(t, g, n, 0)
		}
	}
}
