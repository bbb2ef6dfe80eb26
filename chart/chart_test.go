package chart

import (
	"fmt"
	"math"
	"slices"
	"testing"

	"cachepot/api"
)

const (
	ok     = api.OK
	maxSeq = math.MaxInt32
	none   = -1 // where a region is told: there is none
)

func small() api.Geom { return api.Geom{Page: 32, Pages: 3, Regions: 4} }
func great() api.Geom { return api.Geom{Page: 128, Pages: 10, Regions: 12} }
func odd() api.Geom   { return api.Geom{Page: 45, Pages: 7, Regions: 5} }

func sizes() []api.Geom { return []api.Geom{small(), odd(), great()} }

func slotsOf(g api.Geom) int { return g.Pages - 1 }

// layouts are all that unlike numbers of pages and regions make.
func layouts() []api.Geom {
	var l []api.Geom
	for pages := 3; pages <= 10; pages++ {
		for regions := 4; regions <= 12; regions++ {
			l = append(l, api.Geom{Page: 32, Pages: pages, Regions: regions}, api.Geom{Page: 128, Pages: pages, Regions: regions})
		}
	}
	return l
}

func wrongGeoms() []api.Geom {
	l := []api.Geom{{}, {Page: 31, Pages: 4, Regions: 5}, {Page: 129, Pages: 4, Regions: 5}, {Page: 32, Pages: 2, Regions: 5}, {Page: 32, Pages: 11, Regions: 5}, {Page: 32, Pages: 4, Regions: 3}, {Page: 32, Pages: 4, Regions: 13}}
	for _, n := range []int{0, -1, math.MinInt, math.MaxInt, 1<<32 + 32} {
		l = append(l, api.Geom{Page: n, Pages: 4, Regions: 5}, api.Geom{Page: 32, Pages: n, Regions: 5}, api.Geom{Page: 32, Pages: 4, Regions: n})
	}
	return l
}

// when is n, or 0 where it is not so.
func when(is bool, n int) int {
	if is {
		return n
	}
	return 0
}

// outside are numbers that are none of 0 to n-1.
func outside(n int) []int {
	return []int{n, n + 1, 2 * n, -1, -2, -n, math.MaxInt, math.MinInt, math.MaxInt32, math.MinInt32, 1 << 32, -1 << 32}
}

// wrongEpochs are epochs that no taken region has.
func wrongEpochs() []uint32 {
	return []uint32{0, maxSeq + 1, maxSeq + 2, math.MaxUint32 - 1, math.MaxUint32}
}

// taken is a region as it is Set.
type taken struct {
	region int
	epoch  uint32
	used   int
}

// of is an account with these regions taken, and that one open.
func of(t *testing.T, g api.Geom, open int, l ...taken) *Chart {
	t.Helper()
	c := New(g)
	if c == nil {
		t.Fatalf("New(%+v) is nil", g)
	}
	for _, x := range l {
		wantCode(t, "Set", c.Set(x.region, x.epoch, x.used), ok)
	}
	if open != none {
		wantCode(t, "Resume", c.Resume(open), ok)
	}
	return c
}

// all is an account with all regions taken, of rising epochs from first on, and that one open.
func all(t *testing.T, g api.Geom, open int, first uint32) *Chart {
	t.Helper()
	var l []taken
	for region := range g.Regions {
		l = append(l, taken{region, first + uint32(region), 0})
	}
	return of(t, g, open, l...)
}

func wantCode(t *testing.T, what string, got, want api.Code) {
	t.Helper()
	if got != want {
		t.Errorf("%s: code %d, not %d", what, got, want)
	}
}

func wantOpen(t *testing.T, c *Chart, region int, epoch uint32) {
	t.Helper()
	gotRegion, gotEpoch, gotOk := c.Open()
	if gotRegion != region || gotEpoch != epoch || !gotOk {
		t.Errorf("Open: %d %d %v, not %d %d", gotRegion, gotEpoch, gotOk, region, epoch)
	}
}

func wantNoOpen(t *testing.T, c *Chart) {
	t.Helper()
	ahead := told(c)
	if region, epoch, done := c.Open(); region != 0 || epoch != 0 || done {
		t.Errorf("Open: %d %d %v", region, epoch, done)
	}
	if told(c) != ahead {
		t.Errorf("Open that was not done has changed\n%s to\n%s", ahead, told(c))
	}
}

func wantTake(t *testing.T, c *Chart, page int) {
	t.Helper()
	if got, done := c.Take(); got != page || !done {
		t.Errorf("Take: %d %v, not %d", got, done, page)
	}
}

func wantNoTake(t *testing.T, c *Chart) {
	t.Helper()
	ahead := told(c)
	if page, done := c.Take(); page != 0 || done {
		t.Errorf("Take: %d %v", page, done)
	}
	if told(c) != ahead {
		t.Errorf("Take that was not done has changed\n%s to\n%s", ahead, told(c))
	}
}

// wantOldest holds Oldest, none meaning that it is false.
func wantOldest(t *testing.T, c *Chart, region int) {
	t.Helper()
	got, found := c.Oldest()
	if found != (region != none) || found && got != region || !found && got != 0 {
		t.Errorf("Oldest: %d %v, not %d", got, found, region)
	}
}

func wantRegion(t *testing.T, c *Chart, region int, epoch uint32, used int) {
	t.Helper()
	if c.Epoch(region) != epoch || c.Used(region) != used {
		t.Errorf("region %d: Epoch %d, Used %d, not %d, %d", region, c.Epoch(region), c.Used(region), epoch, used)
	}
}

func wantRoom(t *testing.T, c *Chart, free, left, avail int) {
	t.Helper()
	if c.Free() != free || c.Left() != left || c.Avail() != avail {
		t.Errorf("Free %d, Left %d, Avail %d, not %d, %d, %d", c.Free(), c.Left(), c.Avail(), free, left, avail)
	}
}

// wantRefused does a call, and holds what the account tells ahead of it against what it tells behind it.
func wantRefused(t *testing.T, c *Chart, what string, want api.Code, call func() api.Code) {
	t.Helper()
	ahead := told(c)
	wantCode(t, what, call(), want)
	if told(c) != ahead {
		t.Errorf("%s: it has changed\n%s to\n%s", what, ahead, told(c))
	}
}

// looks is all that an account tells without being turned by it; of regions there are 12, and one around each end.
type looks struct {
	geom                      api.Geom
	free, left, avail, oldest int
	found                     bool
	epochs                    [14]uint32
	used                      [14]int
}

// account is what an account has, in whatever form.
type account interface {
	Geom() api.Geom
	Set(region int, epoch uint32, used int) api.Code
	Resume(region int) api.Code
	Epoch(region int) uint32
	Used(region int) int
	Free() int
	Left() int
	Avail() int
	Open() (region int, epoch uint32, ok bool)
	Take() (page int, ok bool)
	Oldest() (region int, ok bool)
	Erase(region int) api.Code
}

func look(a account) looks {
	x := looks{geom: a.Geom(), free: a.Free(), left: a.Left(), avail: a.Avail()}
	x.oldest, x.found = a.Oldest()
	for i := range x.epochs {
		x.epochs[i], x.used[i] = a.Epoch(i-1), a.Used(i-1)
	}
	return x
}

// copied is an account that goes its own way from here.
func copied(c *Chart) *Chart {
	d := *c
	d.states = slices.Clone(c.states)
	return &d
}

// told is how an account looks, and what copies of it answer from here on: which one is open is seen by that alone.
func told(c *Chart) string {
	l := []any{look(c)}
	for region := range c.Geom().Regions {
		d := copied(c)
		l = append(l, d.Resume(region), d.Erase(region), look(d))
	}
	d := copied(c)
	page, done := d.Take()
	l = append(l, page, done, look(d))
	region, epoch, done := d.Open()
	return fmt.Sprint(append(l, region, epoch, done, look(d))...)
}

func TestP1101NewIsAllFree(t *testing.T) {
	for _, g := range layouts() {
		c := New(g)
		if c.Geom() != g {
			t.Errorf("Geom: %+v, not %+v", c.Geom(), g)
		}
		wantRoom(t, c, g.Regions, 0, (g.Regions-2)*slotsOf(g))
		for region := -1; region <= g.Regions; region++ {
			wantRegion(t, c, region, 0, 0)
		}
		wantOldest(t, c, none)
		wantNoTake(t, c)
	}
}

func TestP1101NewOfWrongGeoms(t *testing.T) {
	for _, g := range wrongGeoms() {
		if c := New(g); c != nil {
			t.Errorf("New(%+v): %+v", g, c)
		}
	}
}

func TestP1101AccountsAreApart(t *testing.T) {
	a, b := New(odd()), New(odd())
	ahead := told(b)
	a.Set(1, 7, 3)
	a.Open()
	a.Take()
	if told(b) != ahead {
		t.Errorf("another account has changed from\n%s to\n%s", ahead, told(b))
	}
}

// TestP1101SetAtItsEdges sets the first region, the last one and one between, at each edge of epoch and used.
func TestP1101SetAtItsEdges(t *testing.T) {
	for _, g := range sizes() {
		for _, region := range []int{0, 1, g.Regions - 1} {
			for _, epoch := range []uint32{1, 2, 255, 1 << 16, maxSeq - 1, maxSeq} {
				for _, used := range []int{0, 1, slotsOf(g) - 1, slotsOf(g)} {
					c := of(t, g, none, taken{region, epoch, used})
					wantRoom(t, c, g.Regions-1, 0, (g.Regions-3)*slotsOf(g))
					wantOldest(t, c, region)
					wantNoTake(t, c)
					for other := range g.Regions {
						if other == region {
							wantRegion(t, c, other, epoch, used)
						} else {
							wantRegion(t, c, other, 0, 0)
						}
					}
				}
			}
		}
	}
}

// wantNoSet asks for that code of each wrong place, epoch and number of used slots, alone and with others beside it.
func wantNoSet(t *testing.T, c *Chart, region int) {
	t.Helper()
	g := c.Geom()
	for _, wrong := range outside(g.Regions) {
		wantRefused(t, c, "Set of none such", api.ErrArg, func() api.Code { return c.Set(wrong, 1, 0) })
		wantRefused(t, c, "Set of none such, epoch 0", api.ErrArg, func() api.Code { return c.Set(wrong, 0, 0) })
		wantRefused(t, c, "Set of none such, used below 0", api.ErrArg, func() api.Code { return c.Set(wrong, 1, -1) })
	}
	for _, wrong := range wrongEpochs() {
		wantRefused(t, c, fmt.Sprint("Set with epoch ", wrong), api.ErrArg, func() api.Code { return c.Set(region, wrong, 0) })
		wantRefused(t, c, fmt.Sprint("Set with too many used, epoch ", wrong), api.ErrArg, func() api.Code { return c.Set(region, wrong, slotsOf(g)+1) })
	}
	for _, wrong := range outside(slotsOf(g) + 1) {
		for _, epoch := range []uint32{1, 9, maxSeq} {
			wantRefused(t, c, fmt.Sprint("Set with used ", wrong), api.ErrArg, func() api.Code { return c.Set(region, epoch, wrong) })
		}
	}
	wantRefused(t, c, "Set with all wrong", api.ErrArg, func() api.Code { return c.Set(-1, 0, -1) })
}

func TestP1101SetOfWrongThings(t *testing.T) {
	for _, g := range sizes() {
		for _, region := range []int{0, g.Regions - 1} {
			wantNoSet(t, New(g), region)
		}
		// Of a taken one, of the open one and of a full account too, what is wrong counts ahead of that it is taken.
		wantNoSet(t, of(t, g, none, taken{2, 9, 1}), 2)
		wantNoSet(t, of(t, g, 2, taken{2, 9, 1}), 2)
		wantNoSet(t, all(t, g, none, 9), 2)
	}
}

func TestP1101SetOfATakenOne(t *testing.T) {
	for _, g := range sizes() {
		last := g.Regions - 1
		opened := New(g)
		wantOpen(t, opened, 0, 1)
		for _, c := range []*Chart{all(t, g, none, 9), all(t, g, last, 9), of(t, g, none, taken{0, 9, 1}), of(t, g, 0, taken{0, 9, 1}), opened} {
			for region := range g.Regions {
				if c.Epoch(region) == 0 {
					continue
				}
				for _, epoch := range []uint32{1, c.Epoch(region), maxSeq} {
					for _, used := range []int{0, 1, slotsOf(g)} {
						wantRefused(t, c, "Set of a taken one", api.ErrState, func() api.Code { return c.Set(region, epoch, used) })
					}
				}
			}
		}
	}
}

// TestP1101SetBesideTheOpenOne: what is set beside it, with a greater epoch too, leaves it open.
func TestP1101SetBesideTheOpenOne(t *testing.T) {
	for _, epoch := range []uint32{1, 9, maxSeq} {
		c := of(t, odd(), 1, taken{1, 9, 2})
		wantCode(t, "Set", c.Set(4, epoch, 3), ok)
		wantRoom(t, c, 3, 4, 4+6)
		wantOldest(t, c, 4)
		wantTake(t, c, 7+3)
		wantRegion(t, c, 1, 9, 3)
		wantRegion(t, c, 4, epoch, 3)
	}
}

func TestP1101SetOfOneThatWasErased(t *testing.T) {
	c := of(t, odd(), none, taken{3, 9, 2})
	wantCode(t, "Erase", c.Erase(3), ok)
	wantCode(t, "Set", c.Set(3, 4, 6), ok)
	wantRegion(t, c, 3, 4, 6)
}

func TestP1101ResumeOpens(t *testing.T) {
	for _, g := range sizes() {
		slots := slotsOf(g)
		for _, region := range []int{0, 1, g.Regions - 1} {
			for used := range slots + 1 {
				for _, epoch := range []uint32{1, 9, maxSeq} {
					c := of(t, g, region, taken{region, epoch, used})
					wantRoom(t, c, g.Regions-1, slots-used, slots-used+(g.Regions-3)*slots)
					wantRegion(t, c, region, epoch, used)
					wantOldest(t, c, none)
					for slot := used + 1; slot <= slots; slot++ {
						wantTake(t, c, region*g.Pages+slot)
					}
					wantNoTake(t, c)
				}
			}
		}
	}
}

func TestP1101ResumeOfNoneSuch(t *testing.T) {
	for _, g := range sizes() {
		for _, c := range []*Chart{New(g), of(t, g, none, taken{0, 9, 1}), of(t, g, 0, taken{0, 9, 1}), all(t, g, none, 9)} {
			for _, region := range outside(g.Regions) {
				wantRefused(t, c, "Resume of none such", api.ErrArg, func() api.Code { return c.Resume(region) })
			}
		}
	}
}

func TestP1101ResumeOfAFreeOne(t *testing.T) {
	for _, g := range sizes() {
		for _, c := range []*Chart{New(g), of(t, g, none, taken{1, 9, 1}), of(t, g, 1, taken{1, 9, 1})} {
			for _, region := range []int{0, 2, g.Regions - 1} {
				wantRefused(t, c, "Resume of a free one", api.ErrState, func() api.Code { return c.Resume(region) })
			}
		}
		c := of(t, g, none, taken{1, 9, 1})
		wantCode(t, "Erase", c.Erase(1), ok)
		wantRefused(t, c, "Resume of one that was erased", api.ErrState, func() api.Code { return c.Resume(1) })
	}
}

// TestP1101ResumeWhereOneIsOpen: another one, the very one, one of the same epoch, one of a greater one.
func TestP1101ResumeWhereOneIsOpen(t *testing.T) {
	for _, g := range sizes() {
		c := of(t, g, 1, taken{0, 9, 1}, taken{1, 9, 1}, taken{2, 8, 1})
		wantCode(t, "Set", c.Set(3, 10, 1), ok)
		for region := range 4 {
			wantRefused(t, c, "Resume where one is open", api.ErrState, func() api.Code { return c.Resume(region) })
		}
		c = New(g)
		wantOpen(t, c, 0, 1)
		wantRefused(t, c, "Resume of what Open has opened", api.ErrState, func() api.Code { return c.Resume(0) })
	}
}

func TestP1101ResumeWhereAnotherOneIsNewer(t *testing.T) {
	for _, c := range []struct {
		epochs  [4]uint32 // 0: it is free
		resumed []int
	}{
		{[4]uint32{9, 0, 0, 0}, []int{0}}, {[4]uint32{9, 10, 0, 0}, []int{1}}, {[4]uint32{10, 9, 0, 0}, []int{0}}, {[4]uint32{9, 9, 0, 0}, []int{0, 1}}, {[4]uint32{9, 0, 0, 9}, []int{0, 3}},
		{[4]uint32{9, 9, 9, 9}, []int{0, 1, 2, 3}}, {[4]uint32{1, 2, 3, 4}, []int{3}}, {[4]uint32{4, 3, 2, 1}, []int{0}}, {[4]uint32{3, 4, 4, 1}, []int{1, 2}},
		{[4]uint32{maxSeq, maxSeq - 1, 0, 1}, []int{0}}, {[4]uint32{maxSeq - 1, maxSeq, maxSeq, 1}, []int{1, 2}}, {[4]uint32{0, 1 << 30, 1<<30 - 1, 0}, []int{1}},
	} {
		for region := range 4 {
			x := New(small())
			for i, epoch := range c.epochs {
				if epoch > 0 {
					wantCode(t, "Set", x.Set(i, epoch, 1), ok)
				}
			}
			if slices.Contains(c.resumed, region) {
				wantCode(t, fmt.Sprint("Resume of ", region, " of ", c.epochs), x.Resume(region), ok)
				wantTake(t, x, 3*region+2)
			} else {
				wantRefused(t, x, fmt.Sprint("Resume of ", region, " of ", c.epochs), api.ErrState, func() api.Code { return x.Resume(region) })
			}
		}
	}
}

// TestP1101ResumeBehindErase: one that was erased is not newer any more.
func TestP1101ResumeBehindErase(t *testing.T) {
	c := of(t, odd(), none, taken{0, 9, 1}, taken{4, 10, 1})
	wantRefused(t, c, "Resume", api.ErrState, func() api.Code { return c.Resume(0) })
	wantCode(t, "Erase", c.Erase(4), ok)
	wantCode(t, "Resume", c.Resume(0), ok)
}

func TestP1101EpochAndUsedOfNoneSuch(t *testing.T) {
	for _, g := range sizes() {
		for _, c := range []*Chart{New(g), all(t, g, none, 9), all(t, g, g.Regions-1, 9)} {
			for _, region := range outside(g.Regions) {
				wantRegion(t, c, region, 0, 0)
			}
		}
	}
}

// TestP1101LeftAndAvail takes one region after the other: of more free ones than Reserve, just as many, and fewer, where
// none is open, and where one is that has all slots, some or none.
func TestP1101LeftAndAvail(t *testing.T) {
	for _, g := range layouts() {
		slots := slotsOf(g)
		for n := range g.Regions + 1 {
			var l []taken
			for region := range n {
				l = append(l, taken{region, uint32(9 - min(region, 1)), slots})
			}
			free := g.Regions - n
			beyond := max(free-2, 0) * slots
			wantRoom(t, of(t, g, none, l...), free, 0, beyond)
			for used := 0; n > 0 && used <= slots; used++ {
				l[0].used = used
				wantRoom(t, of(t, g, none, l...), free, 0, beyond)
				wantRoom(t, of(t, g, 0, l...), free, slots-used, slots-used+beyond)
			}
		}
	}
}

// TestP1101LeftAndAvailKnown says some of them by numbers.
func TestP1101LeftAndAvailKnown(t *testing.T) {
	full := []taken{{0, 5, 2}, {1, 4, 2}, {2, 3, 2}, {3, 2, 2}, {4, 1, 2}}
	half := append([]taken{{0, 5, 1}}, full[1:]...)
	g := api.Geom{Page: 32, Pages: 3, Regions: 5}
	for n, avail := range []int{6, 4, 2, 0, 0, 0} {
		wantRoom(t, of(t, g, none, full[:n]...), 5-n, 0, avail)
		if n > 0 {
			wantRoom(t, of(t, g, 0, full[:n]...), 5-n, 0, avail)
			wantRoom(t, of(t, g, 0, half[:n]...), 5-n, 1, avail+1)
		}
	}
}

// TestP1102TheDocumentsRun is the chapter's example.
func TestP1102TheDocumentsRun(t *testing.T) {
	c := New(small())
	wantOpen(t, c, 0, 1)
	wantTake(t, c, 1)
	wantTake(t, c, 2)
	wantNoTake(t, c)
	wantRoom(t, c, 3, 0, 2)
}

// TestP1102OpenOneByOne opens all, and one more.
func TestP1102OpenOneByOne(t *testing.T) {
	for _, g := range layouts() {
		c, slots := New(g), slotsOf(g)
		for region := range g.Regions {
			wantOpen(t, c, region, uint32(region+1))
			wantRegion(t, c, region, uint32(region+1), 0)
			free := g.Regions - 1 - region
			wantRoom(t, c, free, slots, slots+max(free-2, 0)*slots)
			if region == 0 {
				wantOldest(t, c, none)
			} else {
				wantOldest(t, c, 0)
			}
		}
		wantTake(t, c, (g.Regions-1)*g.Pages+1)
		wantNoOpen(t, c)
		wantRoom(t, c, 0, slots-1, slots-1)
		wantTake(t, c, (g.Regions-1)*g.Pages+2)
	}
}

// TestP1102OpenIsTheFirstBehindTheNewest has epochs of regions, and which one is opened with which epoch.
func TestP1102OpenIsTheFirstBehindTheNewest(t *testing.T) {
	for _, c := range []struct {
		epochs [5]uint32 // 0: it is free
		region int
		epoch  uint32
	}{
		{[5]uint32{}, 0, 1},
		{[5]uint32{1, 0, 0, 0, 0}, 1, 2}, {[5]uint32{0, 1, 0, 0, 0}, 2, 2}, {[5]uint32{0, 0, 0, 1, 0}, 4, 2},
		{[5]uint32{0, 0, 0, 0, 1}, 0, 2}, {[5]uint32{2, 0, 0, 0, 3}, 1, 4}, {[5]uint32{1, 2, 3, 0, 4}, 3, 5}, {[5]uint32{1, 2, 0, 3, 4}, 2, 5}, {[5]uint32{0, 2, 3, 4, 5}, 0, 6},
		{[5]uint32{5, 4, 3, 0, 0}, 3, 6}, {[5]uint32{5, 0, 3, 0, 4}, 1, 6}, {[5]uint32{0, 5, 4, 3, 2}, 0, 6}, {[5]uint32{0, 5, 4, 3, 0}, 4, 6}, {[5]uint32{0, 0, 9, 3, 8}, 0, 10},
		{[5]uint32{7, 0, 7, 0, 0}, 1, 8}, {[5]uint32{7, 6, 0, 7, 0}, 2, 8}, {[5]uint32{0, 7, 7, 0, 7}, 3, 8}, {[5]uint32{6, 0, 0, 7, 7}, 1, 8}, {[5]uint32{0, 7, 0, 0, 7}, 2, 8}, {[5]uint32{7, 7, 7, 7, 0}, 4, 8}, {[5]uint32{0, 7, 7, 7, 7}, 0, 8},
		{[5]uint32{1, 0, maxSeq - 1, 0, 0}, 3, maxSeq}, {[5]uint32{0, maxSeq - 1, 1, 1, maxSeq - 1}, 0, maxSeq}, {[5]uint32{0, 0, 1 << 30, 0, 0}, 3, 1<<30 + 1},
	} {
		for used := range 3 {
			x := New(api.Geom{Page: 32, Pages: 3, Regions: 5})
			for i, epoch := range c.epochs {
				if epoch > 0 {
					wantCode(t, "Set", x.Set(i, epoch, used), ok)
				}
			}
			wantOpen(t, x, c.region, c.epoch)
			wantRegion(t, x, c.region, c.epoch, 0)
			for i, epoch := range c.epochs {
				if i != c.region {
					wantRegion(t, x, i, epoch, when(epoch > 0, used))
				}
			}
			wantTake(t, x, 3*c.region+1)
		}
	}
}

// TestP1102OpenIsBehindTheNewestNotTheOpenOne: the newest one need not be the one that is open.
func TestP1102OpenIsBehindTheNewestNotTheOpenOne(t *testing.T) {
	c := of(t, odd(), 1, taken{1, 9, 2})
	wantCode(t, "Set", c.Set(3, 20, 1), ok)
	wantOpen(t, c, 4, 21)
	wantOldest(t, c, 1)
	wantOpen(t, c, 0, 22)
	wantOpen(t, c, 2, 23)
	wantNoOpen(t, c)
}

// TestP1102OpenShutsTheOneThatWasOpen: full or not, it may be erased, and takes no more.
func TestP1102OpenShutsTheOneThatWasOpen(t *testing.T) {
	for _, g := range sizes() {
		for used := range slotsOf(g) + 1 {
			c := of(t, g, 2, taken{2, 9, used})
			wantOpen(t, c, 3, 10)
			wantRegion(t, c, 2, 9, used)
			wantOldest(t, c, 2)
			wantRoom(t, c, g.Regions-2, slotsOf(g), slotsOf(g)+(g.Regions-4)*slotsOf(g))
			wantTake(t, c, 3*g.Pages+1)
			wantCode(t, "Erase", c.Erase(2), ok)
			wantRoom(t, c, g.Regions-1, slotsOf(g)-1, slotsOf(g)-1+(g.Regions-3)*slotsOf(g))
		}
	}
}

func TestP1102NoOpenWhereNoneIsFree(t *testing.T) {
	for _, g := range sizes() {
		last := g.Regions - 1
		for _, first := range []uint32{1, 9, maxSeq - uint32(last) - 1, maxSeq - uint32(last)} {
			wantNoOpen(t, all(t, g, none, first))
			c := all(t, g, last, first)
			wantNoOpen(t, c)
			wantTake(t, c, last*g.Pages+1)
			wantRefused(t, c, "Erase of the one that is open still", api.ErrState, func() api.Code { return c.Erase(last) })
		}
	}
}

func TestP1102NoOpenWhereNoEpochIsLeft(t *testing.T) {
	for _, g := range sizes() {
		last := g.Regions - 1
		for _, l := range [][]taken{{{0, maxSeq, 1}}, {{last, maxSeq, 0}}, {{1, maxSeq, 1}, {2, 1, 1}}, {{1, 1, 1}, {2, maxSeq, 1}}, {{1, maxSeq, 1}, {2, maxSeq, 1}}, {{0, maxSeq - 1, 1}, {last, maxSeq, 1}}} {
			wantNoOpen(t, of(t, g, none, l...))
			for _, x := range l {
				if x.epoch == maxSeq {
					c := of(t, g, x.region, l...)
					wantNoOpen(t, c)
					wantTake(t, c, x.region*g.Pages+x.used+1)
				}
			}
		}
		c := of(t, g, none, taken{0, maxSeq - 1, 1})
		wantOpen(t, c, 1, maxSeq)
		wantNoOpen(t, c)
		wantTake(t, c, g.Pages+1)
		c = of(t, g, none, taken{0, maxSeq, 1}, taken{2, 6, 1})
		wantNoOpen(t, c)
		wantCode(t, "Erase", c.Erase(0), ok)
		wantOpen(t, c, 3, 7)
	}
}

// TestP1102TakeEachPage: behind one another, the slots of all regions are all pages but the heads.
func TestP1102TakeEachPage(t *testing.T) {
	for _, g := range layouts() {
		c := New(g)
		wantNoTake(t, c)
		for page := range g.Pages * g.Regions {
			if region, slot := page/g.Pages, page%g.Pages; slot == 0 {
				wantNoTake(t, c)
				wantOpen(t, c, region, uint32(region+1))
			} else {
				wantTake(t, c, page)
				wantRegion(t, c, region, uint32(region+1), slot)
				if c.Left() != slotsOf(g)-slot {
					t.Errorf("%+v: Left %d behind page %d", g, c.Left(), page)
				}
			}
		}
		wantNoTake(t, c)
	}
}

func TestP1102NoTakeWhereNoneIsOpen(t *testing.T) {
	for _, g := range sizes() {
		wantNoTake(t, New(g))
		wantNoTake(t, of(t, g, none, taken{0, 9, 0}))
		wantNoTake(t, all(t, g, none, 9))
		wantNoTake(t, of(t, g, 1, taken{0, 9, 0}, taken{1, 9, slotsOf(g)}))
	}
}

func TestP1102OldestOfTheOthers(t *testing.T) {
	for _, c := range []struct {
		epochs       [4]uint32 // 0: it is free
		open, oldest int
	}{
		{[4]uint32{}, none, none}, {[4]uint32{9, 0, 0, 0}, none, 0}, {[4]uint32{9, 0, 0, 0}, 0, none}, {[4]uint32{0, 0, 0, 9}, none, 3}, {[4]uint32{0, 0, 0, 9}, 3, none},
		{[4]uint32{1, 2, 3, 4}, none, 0}, {[4]uint32{1, 2, 3, 4}, 3, 0}, {[4]uint32{4, 3, 2, 1}, none, 3}, {[4]uint32{4, 3, 2, 1}, 0, 3}, {[4]uint32{3, 4, 1, 2}, 1, 2}, {[4]uint32{0, 4, 0, 2}, 1, 3},
		{[4]uint32{7, 7, 0, 0}, none, 0}, {[4]uint32{7, 7, 0, 0}, 0, 1}, {[4]uint32{7, 7, 0, 0}, 1, 0}, {[4]uint32{7, 7, 7, 7}, 2, 0}, {[4]uint32{7, 7, 7, 7}, 0, 1}, {[4]uint32{8, 7, 0, 7}, 0, 1}, {[4]uint32{8, 7, 0, 7}, none, 1}, {[4]uint32{0, 9, 7, 7}, 1, 2},
		{[4]uint32{maxSeq, 1, 0, 0}, 0, 1}, {[4]uint32{maxSeq, maxSeq, 0, 0}, 0, 1}, {[4]uint32{maxSeq, maxSeq, 0, 0}, 1, 0}, {[4]uint32{maxSeq, 0, 0, maxSeq}, none, 0}, {[4]uint32{maxSeq - 1, maxSeq, 0, 0}, 1, 0}, {[4]uint32{0, 0, 0, maxSeq}, none, 3},
	} {
		var l []taken
		for region, epoch := range c.epochs {
			if epoch > 0 {
				l = append(l, taken{region, epoch, region % 3})
			}
		}
		x := of(t, small(), c.open, l...)
		wantOldest(t, x, c.oldest)
		wantOldest(t, x, c.oldest)
	}
}

// TestP1102OldestIsNotTheOpenOne, though its epoch is the least.
func TestP1102OldestIsNotTheOpenOne(t *testing.T) {
	c := of(t, odd(), 2, taken{2, 5, 1})
	wantCode(t, "Set", c.Set(1, 9, 1), ok)
	wantCode(t, "Set", c.Set(4, 8, 1), ok)
	wantOldest(t, c, 4)
	wantCode(t, "Erase", c.Erase(4), ok)
	wantOldest(t, c, 1)
	wantCode(t, "Erase", c.Erase(1), ok)
	wantOldest(t, c, none)
}

func TestP1102EraseEachTakenOne(t *testing.T) {
	for _, g := range sizes() {
		last := g.Regions - 1
		for _, open := range []int{none, last} {
			for region := range g.Regions {
				c := all(t, g, open, 9)
				if region == open {
					wantRefused(t, c, "Erase of the open one", api.ErrState, func() api.Code { return c.Erase(region) })
					continue
				}
				left := when(open != none, slotsOf(g))
				wantCode(t, "Erase", c.Erase(region), ok)
				wantRegion(t, c, region, 0, 0)
				wantRoom(t, c, 1, left, left)
				wantRefused(t, c, "Erase once more", api.ErrState, func() api.Code { return c.Erase(region) })
			}
		}
	}
}

func TestP1102EraseTakesTheUsedSlots(t *testing.T) {
	c := of(t, odd(), none, taken{1, 9, 6}, taken{4, 8, 3})
	wantCode(t, "Erase", c.Erase(1), ok)
	wantRegion(t, c, 1, 0, 0)
	wantRegion(t, c, 4, 8, 3)
	wantOpen(t, c, 0, 9)
	wantOpen(t, c, 1, 10)
	wantRegion(t, c, 1, 10, 0)
	wantTake(t, c, 7+1)
}

func TestP1102EraseOfWrongOnes(t *testing.T) {
	for _, g := range sizes() {
		for _, c := range []*Chart{New(g), of(t, g, none, taken{1, 9, 1}), of(t, g, 1, taken{1, 9, 1}), all(t, g, none, 9), all(t, g, g.Regions-1, 9)} {
			for _, region := range outside(g.Regions) {
				wantRefused(t, c, "Erase of none such", api.ErrArg, func() api.Code { return c.Erase(region) })
			}
			for region := range g.Regions {
				if c.Epoch(region) == 0 {
					wantRefused(t, c, "Erase of a free one", api.ErrState, func() api.Code { return c.Erase(region) })
				}
			}
		}
		c := New(g)
		wantOpen(t, c, 0, 1)
		wantRefused(t, c, "Erase of what Open has opened", api.ErrState, func() api.Code { return c.Erase(0) })
	}
}

// TestP1102RoundAndRound goes over a device as a log does: the oldest region is erased where one alone is free.
func TestP1102RoundAndRound(t *testing.T) {
	for _, g := range layouts() {
		c := New(g)
		for i := range 5*g.Regions + 3 {
			wantOpen(t, c, i%g.Regions, uint32(i+1))
			for slot := 1; slot < g.Pages; slot++ {
				wantTake(t, c, i%g.Regions*g.Pages+slot)
			}
			if c.Free() == 1 {
				oldest := (i + 2) % g.Regions
				wantOldest(t, c, oldest)
				wantCode(t, "Erase", c.Erase(oldest), ok)
				wantRoom(t, c, 2, 0, 0)
			}
		}
	}
}

func TestP1103NilChart(t *testing.T) {
	var c *Chart
	for range 2 {
		for _, region := range append(outside(12), 0, 1, 11) {
			wantCode(t, "Set", c.Set(region, 1, 0), api.ErrArg)
			wantCode(t, "Set", c.Set(region, 0, -1), api.ErrArg)
			wantCode(t, "Resume", c.Resume(region), api.ErrArg)
			wantCode(t, "Erase", c.Erase(region), api.ErrArg)
			wantRegion(t, c, region, 0, 0)
		}
		if c.Geom() != (api.Geom{}) {
			t.Errorf("Geom: %+v", c.Geom())
		}
		wantRoom(t, c, 0, 0, 0)
		wantOldest(t, c, none)
		if region, epoch, done := c.Open(); region != 0 || epoch != 0 || done {
			t.Errorf("Open: %d %d %v", region, epoch, done)
		}
		if page, done := c.Take(); page != 0 || done {
			t.Errorf("Take: %d %v", page, done)
		}
	}
	if look(c) != (looks{}) {
		t.Errorf("a nil Chart tells %+v", look(c))
	}
}

// TestP1103ChartThatNobodyMade has no regions either; that nothing panics is all.
func TestP1103ChartThatNobodyMade(t *testing.T) {
	c := &Chart{}
	for _, region := range append(outside(12), 0, 1, 11) {
		wantCode(t, "Set", c.Set(region, 1, 0), api.ErrArg)
		wantCode(t, "Resume", c.Resume(region), api.ErrArg)
		wantCode(t, "Erase", c.Erase(region), api.ErrArg)
	}
	wantNoOpen(t, c)
	wantNoTake(t, c)
	if look(c) != (looks{}) {
		t.Errorf("a Chart that nobody made tells %+v", look(c))
	}
}

// plain is an account in another form: a row of the taken regions, and the number of the open one.
type plain struct {
	g    api.Geom
	row  []taken
	open int
}

func (p *plain) Geom() api.Geom { return p.g }

// find is where in the row the region is, below 0: nowhere.
func (p *plain) find(region int) int {
	return slices.IndexFunc(p.row, func(x taken) bool { return x.region == region })
}

// byAge is the row from the least epoch to the greatest, of the same epoch by rising numbers.
func (p *plain) byAge() []taken {
	l := slices.Clone(p.row)
	slices.SortFunc(l, func(a, b taken) int {
		if a.epoch != b.epoch {
			return int(int64(a.epoch) - int64(b.epoch))
		}
		return a.region - b.region
	})
	return l
}

func (p *plain) Set(region int, epoch uint32, used int) api.Code {
	if region < 0 || region >= p.g.Regions {
		return api.ErrArg
	}
	if epoch == 0 || epoch > maxSeq {
		return api.ErrArg
	}
	if used < 0 || used >= p.g.Pages {
		return api.ErrArg
	}
	if p.find(region) >= 0 {
		return api.ErrState
	}
	p.row = append(p.row, taken{region, epoch, used})
	return api.OK
}

func (p *plain) Resume(region int) api.Code {
	if region < 0 || region >= p.g.Regions {
		return api.ErrArg
	}
	at := p.find(region)
	if at < 0 || p.open != none {
		return api.ErrState
	}
	for _, x := range p.row {
		if x.epoch > p.row[at].epoch {
			return api.ErrState
		}
	}
	p.open = region
	return api.OK
}

func (p *plain) Epoch(region int) uint32 {
	if at := p.find(region); at >= 0 {
		return p.row[at].epoch
	}
	return 0
}

func (p *plain) Used(region int) int {
	if at := p.find(region); at >= 0 {
		return p.row[at].used
	}
	return 0
}

func (p *plain) Free() int { return p.g.Regions - len(p.row) }

func (p *plain) Left() int {
	if p.open == none {
		return 0
	}
	return p.g.Pages - 1 - p.Used(p.open)
}

func (p *plain) Avail() int {
	n := p.Left()
	for free := p.Free(); free > 2; free-- {
		n += p.g.Pages - 1
	}
	return n
}

func (p *plain) Open() (int, uint32, bool) {
	newest, epoch := none, uint32(0)
	for _, x := range p.byAge() {
		if x.epoch > epoch {
			newest, epoch = x.region, x.epoch
		}
	}
	if p.Free() == 0 || epoch == maxSeq {
		return 0, 0, false
	}
	region := newest + 1
	for region == p.g.Regions || p.find(region) >= 0 {
		if region++; region > p.g.Regions {
			region = 0
		}
	}
	p.row = append(p.row, taken{region, epoch + 1, 0})
	p.open = region
	return region, epoch + 1, true
}

func (p *plain) Take() (int, bool) {
	if p.Left() == 0 {
		return 0, false
	}
	x := &p.row[p.find(p.open)]
	x.used++
	return x.region*p.g.Pages + x.used, true
}

func (p *plain) Oldest() (int, bool) {
	for _, x := range p.byAge() {
		if x.region != p.open {
			return x.region, true
		}
	}
	return 0, false
}

func (p *plain) Erase(region int) api.Code {
	if region < 0 || region >= p.g.Regions {
		return api.ErrArg
	}
	at := p.find(region)
	if at < 0 || region == p.open {
		return api.ErrState
	}
	p.row = slices.Delete(p.row, at, at+1)
	return api.OK
}

// call is a call that turns an account, in whatever form: what it answers.
type call struct {
	name string
	do   func(account) [3]int64
}

func calledOpen() call {
	return call{"Open", func(a account) [3]int64 {
		region, epoch, done := a.Open()
		return [3]int64{int64(region), int64(epoch), int64(when(done, 1))}
	}}
}

func calledTake() call {
	return call{"Take", func(a account) [3]int64 {
		page, done := a.Take()
		return [3]int64{int64(page), int64(when(done, 1))}
	}}
}

func calledSet(region int, epoch uint32, used int) call {
	return call{fmt.Sprint("Set ", region, epoch, used), func(a account) [3]int64 {
		return [3]int64{int64(a.Set(region, epoch, used))}
	}}
}

func calledResume(region int) call {
	return call{fmt.Sprint("Resume ", region), func(a account) [3]int64 { return [3]int64{int64(a.Resume(region))} }}
}

func calledErase(region int) call {
	return call{fmt.Sprint("Erase ", region), func(a account) [3]int64 { return [3]int64{int64(a.Erase(region))} }}
}

// wantAlike does the calls on an account in both forms: false at the first at which they are unlike.
func wantAlike(t *testing.T, g api.Geom, l []call) bool {
	t.Helper()
	c, p := New(g), &plain{g: g, open: none}
	for i, x := range l {
		got, want := x.do(c), x.do(p)
		if got == want && look(c) == look(p) {
			continue
		}
		var names []string
		for _, y := range l[:i+1] {
			names = append(names, y.name)
		}
		t.Errorf("%+v: %v: %v, not %v\n%+v, not\n%+v", g, names, got, want, look(c), look(p))
		return false
	}
	return true
}

// TestP1102AllShortRuns holds all runs of four out of fourteen calls against the other form.
func TestP1102AllShortRuns(t *testing.T) {
	calls := []call{
		calledOpen(), calledTake(), calledSet(0, 2, 1), calledSet(1, 2, 2), calledSet(3, maxSeq-1, 0), calledSet(2, 1, 3), calledSet(3, maxSeq, 2),
		calledResume(0), calledResume(1), calledResume(3), calledResume(4), calledErase(0), calledErase(1), calledErase(3),
	}
	for _, a := range calls {
		for _, b := range calls {
			for _, c := range calls {
				for _, d := range calls {
					if !wantAlike(t, small(), []call{a, b, c, d}) {
						return
					}
				}
			}
		}
	}
}

// dice tells numbers one after the other, from a seed, the same ones each time.
type dice uint32

func (d *dice) roll(n int) int {
	*d = *d*1664525 + 1013904223
	return int(uint64(*d) * uint64(n) >> 32)
}

// region is one of the device most times.
func (d *dice) region(g api.Geom) int {
	if l := outside(g.Regions); d.roll(20) == 0 {
		return l[d.roll(len(l))]
	}
	return d.roll(g.Regions)
}

// epoch is a low one most times, so that many are the same; a high one ends all further Opens.
func (d *dice) epoch() uint32 {
	switch d.roll(60) {
	case 0:
		return maxSeq - uint32(d.roll(4))
	case 1, 2, 3:
		return wrongEpochs()[d.roll(5)]
	}
	return uint32(1 + d.roll(20))
}

func (d *dice) call(g api.Geom) call {
	switch d.roll(10) {
	case 0:
		return calledSet(d.region(g), d.epoch(), d.roll(slotsOf(g)+3)-1)
	case 1:
		return calledResume(d.region(g))
	case 2, 3:
		return calledErase(d.region(g))
	case 4, 5:
		return calledOpen()
	}
	return calledTake()
}

// TestP1102LongRuns holds runs of 60 calls, on devices of all layouts, against the other form. They begin with some Sets
// and a Resume, as a device's that is opened.
func TestP1102LongRuns(t *testing.T) {
	d := dice(1)
	for _, g := range layouts() {
		for range 60 {
			var l []call
			for range d.roll(6) {
				l = append(l, calledSet(d.region(g), d.epoch(), d.roll(slotsOf(g)+1)))
			}
			for len(l) < 60 {
				l = append(l, d.call(g))
			}
			if !wantAlike(t, g, l) {
				return
			}
		}
	}
}
