package latest

import (
	"math"
	"math/rand"
	"slices"
	"testing"

	"dioptra/api"
	"dioptra/cfi"
	"dioptra/driver"
	"dioptra/nor"
	"dioptra/page"
	"dioptra/scan"
)

const ones = 0xffffffff

// pageOf returns a page whose data tell it from others of the sector.
func pageOf(sector, seq uint32) page.Page {
	return page.Page{Sector: sector, Seq: seq, Data: [4]uint32{sector, seq}}
}

// block returns one whose first pages have these sectors and numbers; a page of seq 0 is left out.
func block(l ...[2]uint32) scan.Block {
	b := scan.Block{Head: page.Good, Count: 1}
	for p, x := range l {
		if x[1] > 0 {
			b.Kinds[p], b.Pages[p] = page.Good, pageOf(x[0], x[1])
		}
	}
	return b
}

// at returns the place of a page that block made.
func at(block, page int, sector, seq uint32) Place {
	return Place{Block: block, Page: page, What: pageOf(sector, seq)}
}

// mustBe fails the test unless these places are the wanted ones, in this order.
func mustBe(t *testing.T, name string, got []Place, want ...Place) {
	t.Helper()
	if !slices.Equal(got, want) {
		t.Fatalf("%s:\n%+v, want\n%+v", name, got, want)
	}
}

// mustNeed fails the test unless the needed pages of each block are these, block by block.
func mustNeed(t *testing.T, name string, l []scan.Block, want ...[]Place) {
	t.Helper()
	for b, places := range want {
		mustBe(t, name, Needed(l, b), places...)
	}
}

// P7.1 to P7.4: the example of the chapter.
func TestExample(t *testing.T) {
	l := []scan.Block{block([2]uint32{3, 5}), block([2]uint32{3, 6})}
	mustBe(t, "Of", Of(l), at(1, 0, 3, 6))
	mustNeed(t, "Needed", l, nil, []Place{at(1, 0, 3, 6)})
	if x, is := Find(Of(l), 3); !is || x != at(1, 0, 3, 6) {
		t.Errorf("Find: %+v, %v", x, is)
	}
	if top := Top(l); top != 6 {
		t.Errorf("Top: %d", top)
	}
}

// P7.1, P7.3, P7.4
func TestNothingCounts(t *testing.T) {
	full := scan.Block{Head: page.Good}
	for p := range full.Pages {
		full.Pages[p] = pageOf(uint32(p), 9)
	}
	torn := full
	torn.Kinds = [8]int{2, 2, 2, 2, 2, 2, 2, 2}
	odd := full
	odd.Kinds = [8]int{-1, 3, 4, 1<<32 + 1, math.MinInt, math.MaxInt, -2, 1 << 32}
	for name, l := range map[string][]scan.Block{
		"nil":             nil,
		"no blocks":       {},
		"the zero block":  {{}},
		"free pages":      {full, full},
		"torn pages":      {torn},
		"no kinds at all": {odd, torn, full},
	} {
		mustBe(t, name, Of(l))
		for b := -1; b <= len(l); b++ {
			mustBe(t, name, Needed(l, b))
		}
		if top := Top(l); top != 0 {
			t.Errorf("%s: Top = %d", name, top)
		}
	}
}

// P7.1
func TestOf(t *testing.T) {
	for name, c := range map[string]struct {
		l    []scan.Block
		want []Place
	}{
		"one page":                {[]scan.Block{block([2]uint32{3, 5})}, []Place{at(0, 0, 3, 5)}},
		"the last page":           {[]scan.Block{{}, {Kinds: [8]int{7: 1}, Pages: [8]page.Page{7: pageOf(3, 5)}}}, []Place{at(1, 7, 3, 5)}},
		"sectors fall":            {[]scan.Block{block([2]uint32{9, 1}, [2]uint32{4, 2}), block([2]uint32{2, 3}, [2]uint32{0, 4})}, []Place{at(1, 1, 0, 4), at(1, 0, 2, 3), at(0, 1, 4, 2), at(0, 0, 9, 1)}},
		"greatest in one block":   {[]scan.Block{block([2]uint32{3, 5}, [2]uint32{3, 7}, [2]uint32{3, 6})}, []Place{at(0, 1, 3, 7)}},
		"greatest in the first":   {[]scan.Block{block([2]uint32{3, 7}), block([2]uint32{3, 5}, [2]uint32{3, 6})}, []Place{at(0, 0, 3, 7)}},
		"greatest in the last":    {[]scan.Block{block([2]uint32{3, 5}), block([2]uint32{3, 6}), block([2]uint32{3, 7})}, []Place{at(2, 0, 3, 7)}},
		"equal in one block":      {[]scan.Block{block([2]uint32{3, 6}, [2]uint32{3, 7}, [2]uint32{3, 7})}, []Place{at(0, 1, 3, 7)}},
		"equal in two blocks":     {[]scan.Block{block([2]uint32{1, 1}, [2]uint32{3, 7}), block([2]uint32{3, 7})}, []Place{at(0, 0, 1, 1), at(0, 1, 3, 7)}},
		"a page is skipped":       {[]scan.Block{block([2]uint32{}, [2]uint32{}, [2]uint32{3, 7}), block([2]uint32{3, 6})}, []Place{at(0, 2, 3, 7)}},
		"the highest numbers":     {[]scan.Block{block([2]uint32{511, 0x7fffffff}, [2]uint32{511, 0x80000000}, [2]uint32{511, 1})}, []Place{at(0, 1, 511, 0x80000000)}},
		"numbers no page has":     {[]scan.Block{block([2]uint32{ones, 0x80000000}, [2]uint32{0x80000003, 2}, [2]uint32{ones, ones}, [2]uint32{3, 1})}, []Place{at(0, 3, 3, 1), at(0, 1, 0x80000003, 2), at(0, 2, ones, ones)}},
		"all sectors of a block":  {[]scan.Block{block([2]uint32{7, 1}, [2]uint32{6, 1}, [2]uint32{5, 1}, [2]uint32{4, 1}, [2]uint32{3, 1}, [2]uint32{2, 1}, [2]uint32{1, 1}, [2]uint32{0, 1})}, []Place{at(0, 7, 0, 1), at(0, 6, 1, 1), at(0, 5, 2, 1), at(0, 4, 3, 1), at(0, 3, 4, 1), at(0, 2, 5, 1), at(0, 1, 6, 1), at(0, 0, 7, 1)}},
		"the same seq everywhere": {[]scan.Block{block([2]uint32{2, 4}, [2]uint32{1, 4}), block([2]uint32{1, 4}, [2]uint32{2, 4})}, []Place{at(0, 1, 1, 4), at(0, 0, 2, 4)}},
	} {
		mustBe(t, name, Of(c.l), c.want...)
	}
}

// P7.1: of equal copies the first one is taken, however many there are.
func TestOfManyEqual(t *testing.T) {
	full := block(slices.Repeat([][2]uint32{{3, 7}, {1, 7}}, 4)...)
	for _, blocks := range []int{1, 2, 64, 300} {
		l := slices.Repeat([]scan.Block{full}, blocks)
		mustBe(t, "equal", Of(l), at(0, 1, 1, 7), at(0, 0, 3, 7))
		l = append([]scan.Block{{}, block([2]uint32{3, 6})}, l...)
		mustBe(t, "equal, behind others", Of(l), at(2, 1, 1, 7), at(2, 0, 3, 7))
	}
}

// P7.1, P7.3, P7.4: the kind alone tells whether a page counts.
func TestOnlyKindsCount(t *testing.T) {
	x := block([2]uint32{3, 7}, [2]uint32{3, 9}, [2]uint32{3, 8})
	for _, kind := range []int{page.Free, page.Torn, 3, -1} {
		x.Kinds[1] = kind
		for _, head := range []int{page.Free, page.Good, page.Torn} {
			x.Head = head
			l := []scan.Block{block([2]uint32{3, 7}), x}
			mustBe(t, "Of", Of(l), at(1, 2, 3, 8))
			mustNeed(t, "Needed", l, nil, []Place{at(1, 2, 3, 8)})
			if top := Top(l); top != 8 {
				t.Errorf("kind %d, head %d: Top = %d", kind, head, top)
			}
		}
	}
}

// P7.1, P7.3: a page that is gone is a copy like others.
func TestGone(t *testing.T) {
	gone := page.Page{Sector: 3, Seq: 6, Gone: true}
	l := []scan.Block{block([2]uint32{3, 5}), block([2]uint32{4, 9}, [2]uint32{3, 1}), block([2]uint32{3, 4})}
	l[1].Pages[1] = gone
	want := Place{Block: 1, Page: 1, What: gone}
	mustBe(t, "Of", Of(l), want, at(1, 0, 4, 9))
	mustNeed(t, "Needed", l, nil, []Place{at(1, 0, 4, 9), want}, nil)
	if x, is := Find(Of(l), 3); !is || x != want {
		t.Errorf("Find: %+v, %v", x, is)
	}
}

// P7.1, P7.3, P7.4: a page of Seq 0 counts by its kind, and is found.
func TestSeqZero(t *testing.T) {
	b := scan.Block{Head: page.Good, Kinds: [8]int{1: page.Good, 4: page.Good}}
	want := Place{Page: 1}
	mustBe(t, "Of", Of([]scan.Block{b}), want)
	mustBe(t, "Needed", Needed([]scan.Block{b}, 0), want)
	mustNeed(t, "twice", []scan.Block{b, b}, nil, nil)
	if x, is := Find([]Place{want}, 0); !is || x != want {
		t.Errorf("Find: %+v, %v", x, is)
	}
	if top := Top([]scan.Block{b}); top != 0 {
		t.Errorf("Top = %d", top)
	}
}

// P7.2
func TestFind(t *testing.T) {
	l := []Place{at(4, 1, 9, 2), at(0, 3, 5, 1), at(-7, 99, 5, 8), at(2, 2, 0, 3), at(1, 1, ones, 4), at(4, 1, 9, 3)}
	for sector, want := range map[uint32]Place{9: l[0], 5: l[1], 0: l[3], ones: l[4]} {
		if x, is := Find(l, sector); !is || x != want {
			t.Errorf("Find of %d: %+v, %v", sector, x, is)
		}
	}
	for _, sector := range []uint32{1, 2, 4, 6, 8, 10, 511, 512, 0x80000000, 0x80000005, 0xfffffffe} {
		if x, is := Find(l, sector); is || x != (Place{}) {
			t.Errorf("Find of %d: %+v, %v", sector, x, is)
		}
	}
	for _, none := range [][]Place{nil, {}, {at(1, 1, 3, 3)}} {
		if x, is := Find(none, 0); is || x != (Place{}) {
			t.Errorf("Find of none among %v: %+v, %v", none, x, is)
		}
	}
	// The zero place is one of sector 0.
	if x, is := Find([]Place{{}, at(1, 1, 0, 3)}, 0); !is || x != (Place{}) {
		t.Errorf("Find of the zero place: %+v, %v", x, is)
	}
}

// P7.3
func TestNeeded(t *testing.T) {
	for name, c := range map[string]struct {
		l    []scan.Block
		want [][]Place
	}{
		"one page":             {[]scan.Block{block([2]uint32{3, 5})}, [][]Place{{at(0, 0, 3, 5)}}},
		"the latest first":     {[]scan.Block{block([2]uint32{3, 6}), block([2]uint32{3, 5})}, [][]Place{{at(0, 0, 3, 6)}, nil}},
		"equal in two blocks":  {[]scan.Block{block([2]uint32{3, 6}), block([2]uint32{3, 6})}, [][]Place{nil, nil}},
		"equal and one more":   {[]scan.Block{block([2]uint32{3, 6}), block([2]uint32{3, 6}), block([2]uint32{3, 7})}, [][]Place{nil, nil, {at(2, 0, 3, 7)}}},
		"equal in one block":   {[]scan.Block{block([2]uint32{3, 6}, [2]uint32{3, 6}, [2]uint32{3, 6}), block([2]uint32{3, 5})}, [][]Place{{at(0, 0, 3, 6)}, nil}},
		"twice, and elsewhere": {[]scan.Block{block([2]uint32{3, 6}, [2]uint32{3, 6}), block([2]uint32{1, 1}, [2]uint32{3, 6})}, [][]Place{nil, {at(1, 0, 1, 1)}}},
		"rising in one block":  {[]scan.Block{block([2]uint32{3, 5}, [2]uint32{3, 6}, [2]uint32{3, 7})}, [][]Place{{at(0, 2, 3, 7)}}},
		"falling in one block": {[]scan.Block{block([2]uint32{3, 7}, [2]uint32{3, 6}, [2]uint32{3, 5})}, [][]Place{{at(0, 0, 3, 7)}}},
		"by page, not sector":  {[]scan.Block{block([2]uint32{9, 1}, [2]uint32{2, 1}, [2]uint32{5, 1}, [2]uint32{2, 2}, [2]uint32{0, 1})}, [][]Place{{at(0, 0, 9, 1), at(0, 2, 5, 1), at(0, 3, 2, 2), at(0, 4, 0, 1)}}},
		"some of them":         {[]scan.Block{block([2]uint32{1, 4}, [2]uint32{2, 4}, [2]uint32{3, 4}), block([2]uint32{2, 5}, [2]uint32{1, 3}), block([2]uint32{3, 4})}, [][]Place{{at(0, 0, 1, 4)}, {at(1, 0, 2, 5)}, nil}},
		"other sectors":        {[]scan.Block{block([2]uint32{1, 1}), block([2]uint32{2, 9}), block([2]uint32{0x80000001, ones})}, [][]Place{{at(0, 0, 1, 1)}, {at(1, 0, 2, 9)}, {at(2, 0, 0x80000001, ones)}}},
		"the highest numbers":  {[]scan.Block{block([2]uint32{511, 0x7fffffff}), block([2]uint32{511, 0x80000000})}, [][]Place{nil, {at(1, 0, 511, 0x80000000)}}},
	} {
		mustNeed(t, name, c.l, c.want...)
	}
}

// P7.3: other data make no page needed, nor does it that a copy is gone.
func TestNeededGoesBySeq(t *testing.T) {
	l := []scan.Block{block([2]uint32{3, 6}), block([2]uint32{3, 6})}
	l[1].Pages[0].Data = [4]uint32{1, 2, 3, 4}
	mustNeed(t, "other data", l, nil, nil)
	l[1].Pages[0] = page.Page{Sector: 3, Seq: 6, Gone: true}
	mustNeed(t, "gone", l, nil, nil)
}

// P7.3
func TestNeededOfNoBlock(t *testing.T) {
	for _, blocks := range []int{0, 1, 5, 64} {
		l := slices.Repeat([]scan.Block{{}}, blocks)
		if blocks > 0 {
			l[blocks-1] = block([2]uint32{3, 5})
			mustBe(t, "the last block", Needed(l, blocks-1), at(blocks-1, 0, 3, 5))
		}
		for _, b := range []int{-1, -2, -blocks - 1, blocks, blocks + 1, 1 << 32, 1<<32 + 1, math.MinInt, math.MaxInt} {
			mustBe(t, "no block", Needed(l, b))
		}
	}
}

// P7.4
func TestTop(t *testing.T) {
	for name, c := range map[string]struct {
		l    []scan.Block
		want uint32
	}{
		"one":               {[]scan.Block{block([2]uint32{3, 5})}, 5},
		"the first":         {[]scan.Block{block([2]uint32{3, 7}, [2]uint32{4, 5}), block([2]uint32{5, 6})}, 7},
		"one between":       {[]scan.Block{block([2]uint32{3, 5}, [2]uint32{4, 7}), block([2]uint32{5, 6})}, 7},
		"the last":          {[]scan.Block{block([2]uint32{3, 5}, [2]uint32{4, 6}), {}, block([2]uint32{5, 7})}, 7},
		"the last page":     {[]scan.Block{{Kinds: [8]int{7: 1}, Pages: [8]page.Page{7: pageOf(3, 5)}}}, 5},
		"the same":          {[]scan.Block{block([2]uint32{3, 7}, [2]uint32{3, 7}), block([2]uint32{3, 7})}, 7},
		"the highest bit":   {[]scan.Block{block([2]uint32{3, 0x7fffffff}, [2]uint32{4, 0x80000000}, [2]uint32{5, 1})}, 0x80000000},
		"all bits":          {[]scan.Block{block([2]uint32{3, ones}, [2]uint32{4, 0x80000000})}, ones},
		"a count is no seq": {[]scan.Block{{Head: page.Good, Count: 9, Kinds: [8]int{page.Good}, Pages: [8]page.Page{{Sector: 8, Seq: 2}}}}, 2},
	} {
		if got := Top(c.l); got != c.want {
			t.Errorf("%s: Top = %d, want %d", name, got, c.want)
		}
	}
}

// all returns the places of all pages that count, in their order.
func all(l []scan.Block) []Place {
	var places []Place
	for b := range l {
		for p := range 8 {
			if l[b].Kinds[p] == 1 {
				places = append(places, Place{b, p, l[b].Pages[p]})
			}
		}
	}
	return places
}

// before reports whether x precedes y.
func before(x, y Place) bool {
	return x.Block < y.Block || x.Block == y.Block && x.Page < y.Page
}

// slowOf asks of each page whether any other one is later, sector by sector.
func slowOf(l []scan.Block, sectors uint32) []Place {
	var places []Place
	for sector := range sectors {
		for _, x := range all(l) {
			later := func(y Place) bool {
				return y.What.Sector == sector && (y.What.Seq > x.What.Seq || y.What.Seq == x.What.Seq && before(y, x))
			}
			if x.What.Sector == sector && !slices.ContainsFunc(all(l), later) {
				places = append(places, x)
			}
		}
	}
	return places
}

// slowNeeded takes the promise as it stands, for each page of a block.
func slowNeeded(l []scan.Block, block int) []Place {
	var places []Place
	for _, x := range all(l) {
		instead := func(y Place) bool {
			if y.What.Sector != x.What.Sector {
				return false
			}
			if y.Block != block {
				return y.What.Seq >= x.What.Seq
			}
			return y.What.Seq > x.What.Seq || y.What.Seq == x.What.Seq && y.Page < x.Page
		}
		if x.Block == block && !slices.ContainsFunc(all(l), instead) {
			places = append(places, x)
		}
	}
	return places
}

// mixedBlocks returns blocks whose pages have few sectors and few numbers, so that many are equal.
func mixedBlocks(r *rand.Rand, blocks int, sectors, seqs uint32) []scan.Block {
	l := make([]scan.Block, blocks)
	for b := range l {
		l[b] = scan.Block{Head: page.Good, Count: r.Uint32() >> 1}
		for p := range r.Intn(9) {
			x := pageOf(r.Uint32()%sectors, 1+r.Uint32()%seqs)
			if r.Intn(5) == 0 {
				x.Gone, x.Data = true, [4]uint32{}
			}
			l[b].Kinds[p], l[b].Pages[p] = page.Good, x
			if r.Intn(8) == 0 {
				l[b].Kinds[p] = r.Intn(3)
			}
		}
	}
	return l
}

// P7.1 to P7.4: mixed blocks, held against the slow readings.
func TestMixedBlocks(t *testing.T) {
	r := rand.New(rand.NewSource(7))
	needed, unneeded := 0, 0
	for range 3000 {
		sectors, seqs := 1+r.Uint32()%12, 1+r.Uint32()%12
		l := mixedBlocks(r, 1+r.Intn(6), sectors, seqs)
		want := slowOf(l, sectors)
		mustBe(t, "Of", Of(l), want...)
		var top uint32
		for _, x := range want {
			top = max(top, x.What.Seq)
			if y, is := Find(want, x.What.Sector); !is || y != x {
				t.Fatalf("Find of %d: %+v, %v, want %+v", x.What.Sector, y, is, x)
			}
		}
		if got := Top(l); got != top {
			t.Fatalf("Top = %d, want %d", got, top)
		}
		for b := range l {
			places := slowNeeded(l, b)
			mustBe(t, "Needed", Needed(l, b), places...)
			needed += len(places)
		}
		unneeded += len(all(l))
	}
	if unneeded -= needed; needed == 0 || unneeded == 0 {
		t.Errorf("%d needed pages, %d others", needed, unneeded)
	}
}

// P7.3: all that two blocks of two pages can be, with two sectors and three numbers.
func TestSmallBlocks(t *testing.T) {
	const many = 7
	choose := func(n int) [2]uint32 {
		if n == 0 {
			return [2]uint32{}
		}
		return [2]uint32{uint32(n-1) % 2, 1 + uint32(n-1)/2}
	}
	for n := range many * many * many * many {
		l := []scan.Block{
			block(choose(n%many), choose(n/many%many)),
			block(choose(n/many/many%many), choose(n/many/many/many)),
		}
		mustBe(t, "Of", Of(l), slowOf(l, 2)...)
		mustNeed(t, "Needed", l, slowNeeded(l, 0), slowNeeded(l, 1))
	}
}

// mustKeep fails the test unless every sector that is not needed in the block has a latest page of the same Seq without it.
func mustKeep(t *testing.T, l, without []scan.Block, block int) {
	t.Helper()
	needed, kept := Needed(l, block), Of(without)
	for _, x := range Of(l) {
		if _, is := Find(needed, x.What.Sector); is {
			continue
		}
		if y, is := Find(kept, x.What.Sector); !is || y.What.Seq != x.What.Seq {
			t.Fatalf("without block %d: %+v, %v, before: %+v", block, y, is, x)
		}
	}
	// And what is needed is lost indeed.
	for _, x := range needed {
		if y, is := Find(kept, x.What.Sector); is && y.What.Seq >= x.What.Seq {
			t.Fatalf("without block %d: %+v, needed: %+v", block, y, x)
		}
	}
}

// P7.5
func TestWhatIsLost(t *testing.T) {
	r := rand.New(rand.NewSource(8))
	for range 3000 {
		sectors := 1 + r.Uint32()%12
		l := mixedBlocks(r, 1+r.Intn(6), sectors, 1+r.Uint32()%12)
		for b := range l {
			erased := slices.Clone(l)
			erased[b] = scan.Block{Head: page.Good, Count: 1}
			mustKeep(t, l, erased, b)
			mustKeep(t, l, slices.Delete(slices.Clone(l), b, b+1), b)
		}
	}
}

// P7.5
func TestAtMostOneNeeded(t *testing.T) {
	r := rand.New(rand.NewSource(9))
	for range 3000 {
		l := mixedBlocks(r, 1+r.Intn(6), 1+r.Uint32()%6, 1+r.Uint32()%6)
		latest, seen := Of(l), map[uint32]Place{}
		for b := range l {
			for _, x := range Needed(l, b) {
				if y, is := seen[x.What.Sector]; is {
					t.Fatalf("both %+v and %+v are needed", y, x)
				}
				seen[x.What.Sector] = x
				if y, is := Find(latest, x.What.Sector); !is || y != x {
					t.Fatalf("%+v is needed, but the latest is %+v", x, y)
				}
			}
		}
	}
}

// P7.1, P7.3, P7.4: many blocks, each sector in two of them.
func TestManyBlocks(t *testing.T) {
	const blocks = 2000
	var l []scan.Block
	for b := range blocks {
		var x [][2]uint32
		for p := range 8 {
			x = append(x, [2]uint32{uint32(b/2*8 + p), uint32(1 + b)})
		}
		l = append(l, block(x...))
	}
	places := Of(l)
	if len(places) != blocks/2*8 {
		t.Fatalf("%d places", len(places))
	}
	for i, x := range places {
		if x != at(i/8*2+1, i%8, uint32(i), uint32(i/8*2+2)) {
			t.Fatalf("place %d: %+v", i, x)
		}
	}
	if len(Needed(l, blocks-2)) != 0 || len(Needed(l, blocks-1)) != 8 || Top(l) != blocks {
		t.Errorf("Needed: %v, %v, Top: %d", Needed(l, blocks-2), Needed(l, blocks-1), Top(l))
	}
}

// P7.1 to P7.4: the blocks come from a flash, by a driver and a scan.
func TestThroughScan(t *testing.T) {
	const blocks = 5
	d := driver.New(cfi.New(nor.New(blocks, 10)), blocks)
	gone := page.Page{Sector: 7, Seq: 4, Gone: true}
	program := func(at int, words []uint32) {
		if e := d.Program(at, words...); e != api.OK {
			t.Fatalf("Program(%d): error %d", at, e)
		}
	}
	for _, b := range []int{1, 3} {
		program(64*b, page.Header(2))
	}
	program(page.At(1, 0), page.Words(pageOf(7, 3)))
	program(page.At(1, 1), page.Words(pageOf(2, 1)))
	program(page.At(3, 0), page.Words(gone))
	program(page.At(3, 1), page.Words(pageOf(2, 9))[:6])
	// Block 4 has no header, so that its pages don't count.
	program(page.At(4, 0), page.Words(pageOf(2, 8)))
	var w []uint32
	for b := range blocks {
		words, e := d.Read(64*b, 64)
		if e != api.OK {
			t.Fatalf("Read of block %d: error %d", b, e)
		}
		w = append(w, words...)
	}
	l, e := scan.Words(w)
	if e != api.OK {
		t.Fatalf("scan: error %d", e)
	}
	last := Place{Block: 3, What: gone}
	mustBe(t, "Of", Of(l), at(1, 1, 2, 1), last)
	mustNeed(t, "Needed", l, nil, []Place{at(1, 1, 2, 1)}, nil, []Place{last}, nil)
	if top := Top(l); top != 4 {
		t.Errorf("Top = %d", top)
	}
}

// R4, R6: the blocks and places that are passed stay, and what was found stays when they change.
func TestArgumentsStay(t *testing.T) {
	r := rand.New(rand.NewSource(10))
	for range 300 {
		// What is behind the blocks belongs to the caller, too.
		spare := append(mixedBlocks(r, 4, 9, 9), block([2]uint32{3, 5}), block([2]uint32{3, 6}))
		before := slices.Clone(spare)
		l := spare[:4]
		first, needed := Of(l), Needed(l, 2)
		mustBe(t, "Of, again", Of(l), first...)
		mustBe(t, "Needed, again", Needed(l, 2), needed...)
		Top(l)
		if !slices.Equal(spare, before) {
			t.Fatal("the blocks changed")
		}
		places, wanted := slices.Clone(first), slices.Clone(needed)
		for sector := range uint32(9) {
			Find(places, sector)
		}
		mustBe(t, "the places", places, first...)
		clear(l)
		mustBe(t, "Of, after a change", first, places...)
		mustBe(t, "Needed, after a change", needed, wanted...)
		// No answer shares memory with another.
		other := Of(before[:4])
		clear(other[:cap(other)])
		mustBe(t, "Of, after a change of another", Of(before[:4]), first...)
		mustBe(t, "Of, still", first, places...)
	}
}

// P7.1: going through the pages can end before the last one.
func TestSomePages(t *testing.T) {
	l := []scan.Block{block([2]uint32{1, 1}, [2]uint32{2, 2}), block([2]uint32{3, 3}, [2]uint32{4, 4})}
	for many := 1; many <= 4; many++ {
		var places []Place
		for x := range counting(l) {
			places = append(places, x)
			if len(places) == many {
				break
			}
		}
		mustBe(t, "some pages", places, all(l)[:many]...)
	}
}
