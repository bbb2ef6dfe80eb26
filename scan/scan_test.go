package scan

import (
	"fmt"
	"hash/crc32"
	"math"
	"slices"
	"strings"
	"testing"

	"cachepot/api"
	"cachepot/chart"
	"cachepot/flash"
	"cachepot/tape"
)

const (
	ok     = api.OK
	maxSeq = math.MaxInt32
)

func small() api.Geom { return api.Geom{Page: 32, Pages: 3, Regions: 4} }
func great() api.Geom { return api.Geom{Page: 128, Pages: 10, Regions: 12} }
func odd() api.Geom   { return api.Geom{Page: 45, Pages: 7, Regions: 5} }

func sizes() []api.Geom { return []api.Geom{small(), odd(), great()} }

func slotsOf(g api.Geom) int { return g.Pages - 1 }

func roomOf(g api.Geom) int { return g.Page - 15 }

// layouts are all that unlike numbers of pages and regions make.
func layouts() []api.Geom {
	var l []api.Geom
	for pages := 3; pages <= 10; pages++ {
		for regions := 4; regions <= 12; regions++ {
			l = append(l, api.Geom{Page: 32 + 3*pages + 2*regions, Pages: pages, Regions: regions})
		}
	}
	return l
}

// several are sizes, and some of the layouts.
func several() []api.Geom {
	l := sizes()
	for i, g := range layouts() {
		if i%10 == 3 {
			l = append(l, g)
		}
	}
	return l
}

// full is n bytes c.
func full(c byte, n int) string { return strings.Repeat(string([]byte{c}), n) }

// le is a number's four bytes, the lowest one first.
func le(n uint32) string {
	return string([]byte{byte(n), byte(n >> 8), byte(n >> 16), byte(n >> 24)})
}

// outside are numbers that are none of 0 to n-1.
func outside(n int) []int {
	return []int{n, n + 1, 2 * n, -1, -2, -n, math.MaxInt, math.MinInt, math.MaxInt32, math.MinInt32, 1 << 32, -1 << 32, 1<<32 + 1}
}

func head(epoch, region uint32) api.Frame { return api.Frame{Kind: 1, A: epoch, B: region} }

func part(seq uint32, text string) api.Frame { return api.Frame{Kind: 2, A: seq, Body: text} }

func seal(seq, parts, prev, from, size uint32) api.Frame {
	return api.Frame{Kind: 3, A: seq, B: parts, Body: le(prev) + le(from) + le(99) + le(size)}
}

func floor(seq, from uint32) api.Frame { return api.Frame{Kind: 4, A: seq, B: 2, Body: le(from)} }

// framed is the page in which x stands, byte by byte.
func framed(g api.Geom, x api.Frame) string {
	b := string([]byte{byte(x.Kind)}) + le(x.A) + le(x.B) + string([]byte{byte(len(x.Body)), 0}) + x.Body
	return summed(b + full(0, g.Page-4-len(b)))
}

// summed is b with a right sum behind it.
func summed(b string) string { return b + le(crc32.ChecksumIEEE([]byte(b))) }

func blank(g api.Geom) string { return full(255, g.Page) }

// blanks are the blank pages that a region lacks yet.
func blanks(g api.Geom, pages []string) []string {
	pages = slices.Clone(pages)
	for len(pages) < g.Pages {
		pages = append(pages, blank(g))
	}
	return pages
}

// turned is b with a bit of a byte turned.
func turned(b string, at int) string {
	l := []byte(b)
	l[at] ^= 4
	return string(l)
}

// some are frames that say something, and are no Heads.
func some(g api.Geom) []api.Frame {
	l := []api.Frame{part(1, "t"), part(maxSeq, full(255, roomOf(g))), {Kind: 2, A: 7, B: math.MaxUint32, Body: "\x00"}, floor(1, 0), floor(9, 9), floor(maxSeq, maxSeq)}
	if roomOf(g) >= 16 {
		l = append(l, seal(1, 1, 0, 1, 1), seal(9, 2, 8, 9, 300), seal(maxSeq, math.MaxUint32, maxSeq-1, maxSeq, math.MaxUint32))
	}
	return l
}

// row are n frames, one behind the other.
func row(g api.Geom, n int) []api.Frame {
	l := some(g)
	for i := range n {
		l = append(l, part(uint32(i+1), fmt.Sprint("row", i)))
	}
	return l[len(l)-n:]
}

// none are pages of frames that say nothing, by the name of what is wrong.
func none(g api.Geom) map[string]string {
	l := map[string]api.Frame{
		"a Head with a Body": {Kind: 1, A: 1, B: 1, Body: "t"}, "a Head of epoch 0": head(0, 1), "a Head of too late an epoch": head(maxSeq+1, 1), "a Head of the last epoch": head(math.MaxUint32, 1),
		"a Part without Text": part(1, ""), "a Part of Seq 0": part(0, "t"), "a Part of too great a Seq": part(maxSeq+1, "t"),
		"a Seal without numbers": {Kind: 3, A: 1, B: 1}, "a Seal without Parts": seal(1, 0, 0, 1, 1), "a Seal without Size": seal(1, 1, 0, 1, 0), "a Seal of Prev Seq": seal(4, 1, 4, 1, 1), "a Seal of From 0": seal(4, 1, 1, 0, 1), "a Seal of too great a From": seal(4, 1, 1, 5, 1),
		"a Floor without From": {Kind: 4, A: 1}, "a Floor of too great a From": floor(4, 5), "a Floor of Seq 0": floor(0, 0), "a Floor with more": {Kind: 4, A: 4, Body: "\x01\x00\x00\x00\x00"},
	}
	pages := map[string]string{}
	for name, x := range l {
		if len(x.Body) <= roomOf(g) {
			pages[name] = framed(g, x)
		}
	}
	return pages
}

// bad are pages of bytes that are no frames, by the name of what is wrong.
func bad(g api.Geom) map[string]string {
	p := framed(g, part(1, "t"))
	return map[string]string{
		"noughts": full(0, g.Page), "a text": full('x', g.Page), "blank but for the first byte": turned(blank(g), 0), "blank but for the last byte": turned(blank(g), g.Page-1),
		"torn behind the first byte": p[:1] + full(255, g.Page-1), "torn ahead of the last byte": p[:g.Page-1] + turned(p[g.Page-1:], 0), "torn inside": p[:g.Page/2] + full(255, g.Page-g.Page/2),
		"another kind": turned(p, 0), "another number": turned(p, 1), "another Body": turned(p, 11), "another sum": turned(p, g.Page-4),
		"a kind below": framed(g, api.Frame{Kind: 0, A: 1, B: 1, Body: "t"}), "a kind above": framed(g, api.Frame{Kind: 5, A: 1, B: 1, Body: "t"}), "a blank page's bytes with a sum": summed(full(255, g.Page-4)),
		"a byte behind the Body": summed(p[:g.Page-5] + "x"), "too long a Body": summed(p[:9] + string([]byte{byte(roomOf(g) + 1)}) + p[10:g.Page-4]), "far too long a Body": summed(p[:10] + "\x01" + p[11:g.Page-4]),
	}
}

// heads are pages of Heads that are another region's.
func heads(g api.Geom, region int) map[string]string {
	l, n := map[string]string{}, uint32(region)
	for _, other := range []uint32{n + 1, n - 1, n ^ 2, n + 1<<8, n + 1<<16, n + 1<<24, n + 1<<31, ^n, uint32(g.Regions)} {
		if other != n {
			l[fmt.Sprint("the Head of region ", other)] = framed(g, head(7, other))
		}
	}
	return l
}

// merged are all pages of the maps.
func merged(l ...map[string]string) map[string]string {
	all := map[string]string{}
	for _, m := range l {
		for name, page := range m {
			all[name] = page
		}
	}
	return all
}

// junk fills a region with what must not be told of another one.
func junk(g api.Geom, region int) []string {
	return []string{framed(g, head(200, uint32(region))), framed(g, part(200, "other")), full('j', g.Page)}
}

// device has pages in one region, the rest of which is blank, and junk in all others.
func device(t *testing.T, g api.Geom, region int, pages []string) *flash.Flash {
	t.Helper()
	var b strings.Builder
	for i := range g.Regions {
		l := junk(g, i)
		if i == region {
			l = pages
		}
		for _, page := range blanks(g, l) {
			b.WriteString(page)
		}
	}
	return over(t, g, b.String())
}

func over(t *testing.T, g api.Geom, image string) *flash.Flash {
	t.Helper()
	f, code := flash.New(g, image)
	wantCode(t, "flash.New", code, ok)
	return f
}

func wantCode(t *testing.T, what string, got, want api.Code) {
	t.Helper()
	if got != want {
		t.Errorf("%s: code %d, not %d", what, got, want)
	}
}

// isSame says whether both are the same, no frames and nil being one.
func isSame(a, b api.Found) bool {
	return a.Region == b.Region && a.Epoch == b.Epoch && a.Clean == b.Clean && slices.Equal(a.Frames, b.Frames)
}

func wantFound(t *testing.T, what string, f *flash.Flash, want api.Found) {
	t.Helper()
	if got, code := Region(f, want.Region); code != ok || !isSame(got, want) {
		t.Fatalf("%s: Region(%d) of %+v: %+v %d, not %+v", what, want.Region, f.Geom(), got, code, want)
	}
}

func wantNoRegion(t *testing.T, what string, f *flash.Flash, region int, want api.Code) {
	t.Helper()
	if got, code := Region(f, region); code != want || !isSame(got, api.Found{}) {
		t.Fatalf("%s: Region(%d): %+v %d, not %d", what, region, got, code, want)
	}
}

func wantAll(t *testing.T, what string, f *flash.Flash, want []api.Found) {
	t.Helper()
	if got, code := All(f); code != ok || !slices.EqualFunc(got, want, isSame) {
		t.Fatalf("%s: All of %+v: %+v %d, not %+v", what, f.Geom(), got, code, want)
	}
}

func wantNoAll(t *testing.T, what string, f *flash.Flash, want api.Code) {
	t.Helper()
	if got, code := All(f); code != want || len(got) != 0 {
		t.Fatalf("%s: All: %+v %d, not %d", what, got, code, want)
	}
}

// ends are some of a device's regions, the first and the last one among them.
func ends(g api.Geom) []int { return []int{0, 1, g.Regions - 1} }

func TestP1301BlankRegions(t *testing.T) {
	for _, g := range append(layouts(), sizes()...) {
		f := over(t, g, "")
		var all []api.Found
		for region := range g.Regions {
			wantFound(t, "all blank", f, api.Found{Region: region, Clean: true})
			all = append(all, api.Found{Region: region, Clean: true})
		}
		wantAll(t, "all blank", f, all)
	}
	for _, g := range sizes() {
		for region := range g.Regions {
			wantFound(t, "blank among others", device(t, g, region, nil), api.Found{Region: region, Clean: true})
		}
	}
}

// TestP1301EachNumberOfFrames goes from a Head alone up to all slots taken.
func TestP1301EachNumberOfFrames(t *testing.T) {
	for _, g := range append(layouts(), sizes()...) {
		for _, region := range ends(g) {
			for n := range g.Pages {
				want := api.Found{Region: region, Epoch: uint32(n + 5), Frames: row(g, n), Clean: true}
				pages := []string{framed(g, head(want.Epoch, uint32(region)))}
				for _, x := range want.Frames {
					pages = append(pages, framed(g, x))
				}
				wantFound(t, fmt.Sprint(n, " frames"), device(t, g, region, pages), want)
			}
		}
	}
}

// TestP1301ByTheBytes has a region's bytes written out.
func TestP1301ByTheBytes(t *testing.T) {
	image := full(255, 96) + summed("\x01\x04\x03\x02\x01\x01\x00\x00\x00\x00\x00"+full(0, 17)) + summed("\x02\x06\x05\x00\x00\x08\x00\x00\x00\x03\x00xyz"+full(0, 14))
	wantFound(t, "by the bytes", over(t, small(), image), api.Found{Region: 1, Epoch: 0x01020304, Frames: []api.Frame{{Kind: 2, A: 0x0506, B: 8, Body: "xyz"}}, Clean: true})
}

func TestP1301EachFrame(t *testing.T) {
	for _, g := range append(layouts(), sizes()...) {
		for _, x := range some(g) {
			pages := []string{framed(g, head(5, 2)), framed(g, x)}
			wantFound(t, "a frame", device(t, g, 2, pages), api.Found{Region: 2, Epoch: 5, Frames: []api.Frame{x}, Clean: true})
		}
	}
}

func TestP1301Epochs(t *testing.T) {
	for _, g := range sizes() {
		for _, epoch := range []uint32{1, 2, 255, 256, 65536, 1 << 24, maxSeq - 1, maxSeq} {
			pages := []string{framed(g, head(epoch, 3)), framed(g, part(4, "t"))}
			wantFound(t, "an epoch", device(t, g, 3, pages), api.Found{Region: 3, Epoch: epoch, Frames: []api.Frame{part(4, "t")}, Clean: true})
		}
		// These are no epochs, so that the first page is no Head.
		for _, epoch := range []uint32{0, maxSeq + 1, math.MaxUint32} {
			pages := []string{framed(g, head(epoch, 3)), framed(g, part(4, "t"))}
			wantFound(t, "no epoch", device(t, g, 3, pages), api.Found{Region: 3})
		}
	}
}

// firsts are pages that are no head of that region.
func firsts(g api.Geom, region int) map[string]string {
	l := merged(none(g), bad(g), heads(g, region))
	for i, x := range some(g) {
		l[fmt.Sprint("a frame ", i, " of another kind")] = framed(g, x)
	}
	return l
}

// TestP1301FirstPageIsNoHead: no frames are told, whatever stands behind it, and the region is not blank.
func TestP1301FirstPageIsNoHead(t *testing.T) {
	for _, g := range several() {
		p := framed(g, part(4, "t"))
		for _, region := range ends(g) {
			own := framed(g, head(7, uint32(region)))
			for name, first := range firsts(g, region) {
				for i, behind := range [][]string{{}, {p}, {p, p}, {blank(g), p}, {own, p}, {first}} {
					pages := append([]string{first}, behind...)
					wantFound(t, fmt.Sprint(name, " first, case ", i), device(t, g, region, pages), api.Found{Region: region})
				}
			}
		}
	}
}

// TestP1301FirstPageIsBlank: only where all others are blank, too, is the region clean.
func TestP1301FirstPageIsBlank(t *testing.T) {
	for _, g := range several() {
		for _, region := range ends(g) {
			l := firsts(g, region)
			l["its own Head"] = framed(g, head(7, uint32(region)))
			for slot := 1; slot < g.Pages; slot++ {
				for name, page := range l {
					pages := blanks(g, nil)
					pages[slot] = page
					wantFound(t, fmt.Sprint("blank but for ", name, " at ", slot), device(t, g, region, pages), api.Found{Region: region})
				}
			}
		}
	}
}

// enders are pages that end a region's frames, and are not blank.
func enders(g api.Geom, region int) map[string]string {
	own := map[string]string{}
	for _, epoch := range []uint32{6, 7, 8} {
		own[fmt.Sprint("its own Head of epoch ", epoch)] = framed(g, head(epoch, uint32(region)))
	}
	return merged(none(g), bad(g), heads(g, region), own)
}

// TestP1301WhereTheFramesEnd has what ends them at each slot, with nothing and with frames behind it.
func TestP1301WhereTheFramesEnd(t *testing.T) {
	for _, g := range several() {
		region := g.Pages % g.Regions
		for slot := 1; slot < g.Pages; slot++ {
			want := api.Found{Region: region, Epoch: 7, Frames: row(g, slot-1)}
			pages := []string{framed(g, head(7, uint32(region)))}
			for _, x := range want.Frames {
				pages = append(pages, framed(g, x))
			}
			for name, ender := range enders(g, region) {
				what := fmt.Sprint(name, " at slot ", slot)
				wantFound(t, what, device(t, g, region, append(slices.Clone(pages), ender)), want)
				rest := append(slices.Clone(pages), ender)
				for len(rest) < g.Pages {
					rest = append(rest, framed(g, part(9, "behind")))
				}
				wantFound(t, what+", frames behind", device(t, g, region, rest), want)
			}
		}
	}
}

// TestP1301BehindBlankPages has each page that is not blank at each place behind the last frame: it is not told, and
// the region is not clean; where all are blank, it is.
func TestP1301BehindBlankPages(t *testing.T) {
	for _, g := range sizes() {
		region := g.Regions - 1
		l := enders(g, region)
		l["a Part"] = framed(g, part(9, "behind"))
		l["a Floor"] = framed(g, floor(9, 3))
		for n := range slotsOf(g) {
			want := api.Found{Region: region, Epoch: 7, Frames: row(g, n)}
			pages := []string{framed(g, head(7, uint32(region)))}
			for _, x := range want.Frames {
				pages = append(pages, framed(g, x))
			}
			for slot := n + 2; slot < g.Pages; slot++ {
				for name, page := range l {
					rest := blanks(g, pages)
					rest[slot] = page
					wantFound(t, fmt.Sprint(n, " frames, ", name, " at slot ", slot), device(t, g, region, rest), want)
				}
			}
			want.Clean = true
			wantFound(t, fmt.Sprint(n, " frames"), device(t, g, region, blanks(g, pages)), want)
		}
	}
}

// TestP1301CleanByEachByte turns each byte of what has to be blank, with and without a head and a frame ahead.
func TestP1301CleanByEachByte(t *testing.T) {
	for _, g := range sizes() {
		for n := range 3 {
			want := api.Found{Region: 1}
			pages := blanks(g, nil)
			if n > 0 {
				want.Epoch, pages[0] = 7, framed(g, head(7, 1))
			}
			if n > 1 {
				want.Frames, pages[1] = []api.Frame{part(4, "t")}, framed(g, part(4, "t"))
			}
			f := device(t, g, 1, pages)
			for slot := n; slot < g.Pages; slot++ {
				for at := range g.Page {
					for _, x := range []byte{1, 128, 255} {
						f.Rot(g.Pages+slot, at, x)
						wantFound(t, fmt.Sprint("byte ", at, " of slot ", slot), f, want)
						f.Rot(g.Pages+slot, at, x)
					}
				}
			}
			want.Clean = true
			wantFound(t, "as it was", f, want)
		}
	}
}

// TestP1301EachBitOfAPage turns each bit of a Head, and of a frame at each slot: it is there no more.
func TestP1301EachBitOfAPage(t *testing.T) {
	for _, g := range sizes() {
		frames := row(g, slotsOf(g))
		pages := []string{framed(g, head(7, 1))}
		for _, x := range frames {
			pages = append(pages, framed(g, x))
		}
		f := device(t, g, 1, pages)
		for slot := range g.Pages {
			want := api.Found{Region: 1}
			if slot > 0 {
				want.Epoch, want.Frames = 7, frames[:slot-1]
			}
			for bit := range 8 * g.Page {
				f.Rot(g.Pages+slot, bit/8, 1<<(bit%8))
				wantFound(t, fmt.Sprint("bit ", bit, " of slot ", slot), f, want)
				f.Rot(g.Pages+slot, bit/8, 1<<(bit%8))
			}
		}
		wantFound(t, "as it was", f, api.Found{Region: 1, Epoch: 7, Frames: frames, Clean: true})
	}
}

// TestP1301ByItsOwnHeadAlone: a Head says of which region it is, not of where it stands.
func TestP1301ByItsOwnHeadAlone(t *testing.T) {
	for _, g := range layouts() {
		for region := range g.Regions {
			for of := range g.Regions {
				want := api.Found{Region: region}
				if of == region {
					want = api.Found{Region: region, Epoch: 7, Frames: []api.Frame{floor(4, 2)}, Clean: true}
				}
				pages := []string{framed(g, head(7, uint32(of))), framed(g, floor(4, 2))}
				wantFound(t, fmt.Sprint("the Head of ", of), device(t, g, region, pages), want)
			}
		}
	}
}

// TestP1301All has in each region another thing, in order.
func TestP1301All(t *testing.T) {
	for _, g := range append(layouts(), sizes()...) {
		var image strings.Builder
		var want []api.Found
		for region := range g.Regions {
			x := api.Found{Region: region, Epoch: uint32(90 - region), Clean: true}
			pages := []string{framed(g, head(x.Epoch, uint32(region)))}
			switch region % 4 {
			case 1:
				x.Frames = row(g, slotsOf(g))
			case 2:
				x = api.Found{Region: region, Clean: true}
				pages = nil
			case 3:
				x = api.Found{Region: region}
				pages = []string{blank(g), full('x', g.Page)}
			}
			for _, y := range x.Frames {
				pages = append(pages, framed(g, y))
			}
			image.WriteString(strings.Join(blanks(g, pages), ""))
			want = append(want, x)
		}
		f := over(t, g, image.String())
		wantAll(t, "each another", f, want)
		for _, x := range want {
			wantFound(t, "each another", f, x)
		}
	}
}

// wrote is a tape that has written n frames onto a new device, and the regions as they must be found.
func wrote(t *testing.T, g api.Geom, n int) (*flash.Flash, *tape.Tape, []api.Found) {
	t.Helper()
	f := over(t, g, "")
	x := tape.New(f, chart.New(g))
	var want []api.Found
	for region := range g.Regions {
		want = append(want, api.Found{Region: region, Clean: true})
	}
	for i := range n {
		y := some(g)[i%len(some(g))]
		page, code := x.Append(y)
		wantCode(t, "Append", code, ok)
		at := &want[page/g.Pages]
		at.Epoch, at.Frames = uint32(at.Region+1), append(at.Frames, y)
	}
	return f, x, want
}

// TestP1301WhatATapeWrote is told while it is pending, flushed, and behind a crash.
func TestP1301WhatATapeWrote(t *testing.T) {
	for _, g := range sizes() {
		for n := range slotsOf(g)*g.Regions + 1 {
			f, x, want := wrote(t, g, n)
			wantAll(t, fmt.Sprint(n, " frames pending"), f, want)
			wantCode(t, "Flush", x.Flush(), ok)
			wantAll(t, fmt.Sprint(n, " frames flushed"), f, want)
			f.Crash(nil)
			wantAll(t, fmt.Sprint(n, " frames crashed"), f, want)
		}
	}
}

// TestP1301PartlyPending: some frames are done, and some behind them lost, torn or done by a crash.
func TestP1301PartlyPending(t *testing.T) {
	g := odd()
	frames := row(g, 5)
	for _, c := range []struct {
		mask []int
		want api.Found
	}{
		{nil, api.Found{Region: 0, Epoch: 1, Frames: frames[:2], Clean: true}},
		{[]int{1}, api.Found{Region: 0, Epoch: 1, Frames: frames[:3], Clean: true}},
		{[]int{1, 1, 1}, api.Found{Region: 0, Epoch: 1, Frames: frames, Clean: true}},
		{[]int{0, 1, 1}, api.Found{Region: 0, Epoch: 1, Frames: frames[:2]}},
		{[]int{1, 0, 1}, api.Found{Region: 0, Epoch: 1, Frames: frames[:3]}},
		{[]int{1, 0, 2}, api.Found{Region: 0, Epoch: 1, Frames: frames[:3]}},
		{[]int{2}, api.Found{Region: 0, Epoch: 1, Frames: frames[:2]}},
		{[]int{1, 20}, api.Found{Region: 0, Epoch: 1, Frames: frames[:3]}},
		{[]int{1, 1, 45}, api.Found{Region: 0, Epoch: 1, Frames: frames[:4]}},
	} {
		f := over(t, g, "")
		x := tape.New(f, chart.New(g))
		for i, y := range frames {
			x.Append(y)
			if i == 1 {
				wantCode(t, "Flush", x.Flush(), ok)
			}
		}
		all := api.Found{Region: 0, Epoch: 1, Frames: frames, Clean: true}
		wantFound(t, "three of five pending", f, all)
		f.Crash(c.mask)
		wantFound(t, fmt.Sprint("crashed ", c.mask), f, c.want)
	}
}

// TestP1301HeadLostOrTorn: the frames that are done behind it are told by nobody.
func TestP1301HeadLostOrTorn(t *testing.T) {
	for _, g := range sizes() {
		for m := range g.Page + 1 {
			f := over(t, g, "")
			x := tape.New(f, chart.New(g))
			x.Append(part(1, "t"))
			f.Crash([]int{m, 1})
			want := api.Found{Region: 0}
			if m == 1 {
				want = api.Found{Region: 0, Epoch: 1, Frames: []api.Frame{part(1, "t")}, Clean: true}
			}
			wantFound(t, fmt.Sprint("the head ", m), f, want)
		}
	}
}

// TestP1301GivenUp: a region that was erased is blank; one of which an Erase blew is blank as far as the crash says.
func TestP1301GivenUp(t *testing.T) {
	g := small()
	f, x, want := wrote(t, g, 5)
	wantCode(t, "Flush", x.Flush(), ok)
	wantCode(t, "Erase", x.Erase(0), ok)
	want[0] = api.Found{Region: 0, Clean: true}
	wantAll(t, "erased", f, want)
	f.Fuse(0)
	wantCode(t, "Erase", x.Erase(1), api.ErrDown)
	f.Crash([]int{1, 0, 1})
	want[1] = api.Found{Region: 1}
	wantAll(t, "blown", f, want)
}

func TestP1301NilDevice(t *testing.T) {
	for _, region := range append(outside(4), 0, 1, 3, 11) {
		wantNoRegion(t, "nil", nil, region, api.ErrArg)
	}
	wantNoAll(t, "nil", nil, api.ErrArg)
}

// TestP1301NoSuchRegion has devices on which a Head stands for whatever number the region could be taken for.
func TestP1301NoSuchRegion(t *testing.T) {
	for _, g := range append(layouts(), sizes()...) {
		f := over(t, g, strings.Repeat(framed(g, head(7, math.MaxUint32)), g.Pages*g.Regions))
		for _, region := range append(outside(g.Regions), outside(g.Pages*g.Regions)...) {
			wantNoRegion(t, "none such", f, region, api.ErrArg)
		}
	}
}

// TestP1301DeviceThatIsDown: that there is no such region counts first; beside a code nothing is told.
func TestP1301DeviceThatIsDown(t *testing.T) {
	for _, g := range append(layouts(), sizes()...) {
		f := device(t, g, 1, []string{framed(g, head(7, 1)), framed(g, part(4, "t"))})
		before, _ := All(f)
		f.Fuse(0)
		wantCode(t, "Flush", f.Flush(), api.ErrDown)
		for region := range g.Regions {
			wantNoRegion(t, "down", f, region, api.ErrDown)
		}
		for _, region := range outside(g.Regions) {
			wantNoRegion(t, "down, none such", f, region, api.ErrArg)
		}
		wantNoAll(t, "down", f, api.ErrDown)
		f.Crash(nil)
		wantAll(t, "up again", f, before)
	}
}

// TestP1301DeviceOfNobody is one that no call made: it has no regions.
func TestP1301DeviceOfNobody(t *testing.T) {
	f := &flash.Flash{}
	for _, region := range append(outside(4), 0, 1) {
		wantNoRegion(t, "nobody's", f, region, api.ErrArg)
	}
	wantAll(t, "nobody's", f, nil)
}

// TestP1301ReadsAlone: nothing on the device is turned, and none of its calls that count is called.
func TestP1301ReadsAlone(t *testing.T) {
	for _, g := range sizes() {
		f, _, want := wrote(t, g, 3)
		image, pending := f.Image(), f.Pending()
		f.Fuse(1)
		for range 5 {
			wantAll(t, "again", f, want)
			for _, x := range want {
				wantFound(t, "again", f, x)
			}
			wantNoRegion(t, "none such", f, g.Regions, api.ErrArg)
		}
		if f.Image() != image || f.Pending() != pending || f.Down() {
			t.Errorf("%+v: the device is another", g)
		}
		wantCode(t, "the call ahead of the one that blows", f.Erase(g.Regions-1), ok)
		wantCode(t, "the call that blows", f.Flush(), api.ErrDown)
	}
}

// TestP1301NewEachTime writes into what was told, and asks again.
func TestP1301NewEachTime(t *testing.T) {
	f, _, want := wrote(t, odd(), 14)
	one, _ := Region(f, 0)
	all, _ := All(f)
	for i := range one.Frames {
		one.Frames[i] = api.Frame{Kind: 9}
	}
	wantFound(t, "behind a change", f, want[0])
	if !slices.EqualFunc(all, want, isSame) {
		t.Errorf("All has changed with what Region told")
	}
	spoil := all[0].Frames[:cap(all[0].Frames)]
	for i := range spoil {
		spoil[i] = api.Frame{Kind: 8}
	}
	if !slices.EqualFunc(all[1:], want[1:], isSame) {
		t.Errorf("lists of one answer share memory")
	}
	for i := range all {
		all[i] = api.Found{Region: 99}
	}
	wantAll(t, "behind a change", f, want)
}

// dice tells numbers one after the other, from a seed, the same ones each time.
type dice uint32

func (d *dice) roll(n int) int {
	*d = *d*1664525 + 1013904223
	return int(uint64(*d) * uint64(n) >> 32)
}

// frame is one that says something most times.
func (d *dice) frame(g api.Geom, region int) api.Frame {
	switch d.roll(6) {
	case 0:
		return head(uint32(d.roll(4)), uint32(max(region+d.roll(5)-2, 0)))
	case 1:
		return floor(uint32(d.roll(5)), uint32(d.roll(4)))
	case 2:
		if roomOf(g) >= 16 {
			return seal(uint32(d.roll(9)), uint32(d.roll(5)), uint32(d.roll(5)), uint32(d.roll(7)), uint32(d.roll(5)))
		}
	}
	return part(uint32(d.roll(9)), full(byte(d.roll(256)), d.roll(roomOf(g)+1)))
}

// page is a frame's most times, and else blank, or spoilt.
func (d *dice) page(g api.Geom, region int) string {
	b := framed(g, d.frame(g, region))
	switch d.roll(8) {
	case 0:
		return blank(g)
	case 1:
		return turned(b, d.roll(g.Page))
	case 2:
		n := d.roll(g.Page)
		return b[:n] + full(255, g.Page-n)
	}
	return b
}

// region has its own head most times, and blank pages at its end.
func (d *dice) region(g api.Geom, region int) []string {
	var pages []string
	for range d.roll(g.Pages + 1) {
		pages = append(pages, d.page(g, region))
	}
	if len(pages) > 0 && d.roll(4) > 0 {
		pages[0] = framed(g, head(uint32(1+d.roll(9)), uint32(region)))
	}
	return blanks(g, pages)
}

// said is what a page says, told by its bytes alone: 0, or a kind and the frame.
func said(page string) (int, api.Frame) {
	num := func(at int) uint32 {
		return uint32(page[at]) | uint32(page[at+1])<<8 | uint32(page[at+2])<<16 | uint32(page[at+3])<<24
	}
	end, size := len(page)-4, int(page[9])|int(page[10])<<8
	if num(end) != crc32.ChecksumIEEE([]byte(page[:end])) || 11+size > end || strings.Trim(page[11+size:end], "\x00") != "" {
		return 0, api.Frame{}
	}
	x := api.Frame{Kind: int(page[0]), A: num(1), B: num(5), Body: page[11 : 11+size]}
	is := false
	switch x.Kind {
	case 1:
		is = size == 0
	case 2:
		is = size > 0
	case 3:
		is = size == 16 && x.B > 0 && num(11) < x.A && 0 < num(15) && num(15) <= x.A && num(23) > 0
	case 4:
		is = size == 4 && num(11) <= x.A
	}
	if !is || x.A == 0 || x.A > maxSeq {
		return 0, api.Frame{}
	}
	return x.Kind, x
}

// plainFound is what stands in a region's pages, by the document's words.
func plainFound(g api.Geom, region int, pages []string) api.Found {
	want, next := api.Found{Region: region}, 0
	if kind, x := said(pages[0]); kind == 1 && int(x.B) == region {
		want.Epoch = x.A
		for next = 1; next < g.Pages; next++ {
			kind, x := said(pages[next])
			if kind < 2 {
				break
			}
			want.Frames = append(want.Frames, x)
		}
	}
	rest := strings.Join(pages[next:], "")
	want.Clean = rest == full(255, len(rest))
	return want
}

// TestP1301AsTheDocumentSays holds devices, made by a fixed rule, against the other form.
func TestP1301AsTheDocumentSays(t *testing.T) {
	geoms, d := append(layouts(), sizes()...), dice(13)
	clean, unclean, ended, none := 0, 0, 0, 0
	for run := range 6000 {
		g := geoms[d.roll(len(geoms))]
		var image strings.Builder
		var want []api.Found
		for region := range g.Regions {
			pages := d.region(g, region)
			image.WriteString(strings.Join(pages, ""))
			x := plainFound(g, region, pages)
			want = append(want, x)
			switch {
			case x.Epoch == 0:
				none++
			case !x.Clean && len(x.Frames) > 0:
				ended++
			case !x.Clean:
				unclean++
			case len(x.Frames) > 0:
				clean++
			}
		}
		f := over(t, g, image.String())
		wantAll(t, fmt.Sprint("run ", run), f, want)
		at := d.roll(g.Regions)
		wantFound(t, fmt.Sprint("run ", run), f, want[at])
	}
	if min(clean, unclean, ended, none) < 1000 {
		t.Errorf("too few of a kind: %d %d %d %d", clean, unclean, ended, none)
	}
}
