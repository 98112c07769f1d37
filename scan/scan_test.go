package scan

import (
	"math"
	"math/rand"
	"slices"
	"testing"

	"dioptra/api"
	"dioptra/cfi"
	"dioptra/driver"
	"dioptra/nor"
	"dioptra/page"
)

const (
	ones = 0xffffffff
	last = 0x5afec0de
)

// noPages are the kinds in a block that has no good header.
var noPages = [8]int{page.Torn, page.Torn, page.Torn, page.Torn, page.Torn, page.Torn, page.Torn, page.Torn}

// blank returns so many words with all bits set.
func blank(many int) []uint32 {
	return slices.Repeat([]uint32{ones}, many)
}

// headed returns a block with a header of this count, and nothing else.
func headed(count uint32) []uint32 {
	return slices.Concat([]uint32{0xb10c0001, count, ^count, last}, blank(60))
}

// with returns a copy of w with more words from at on.
func with(w []uint32, at int, more ...uint32) []uint32 {
	l := slices.Clone(w)
	copy(l[at:], more)
	return l
}

// mustScan returns what Words finds, and fails the test if it isn't so many blocks.
func mustScan(t *testing.T, name string, w []uint32, many int) []Block {
	t.Helper()
	l, e := Words(w)
	if e != api.OK || len(l) != many {
		t.Fatalf("%s: %d blocks, error %d, want %d blocks", name, len(l), e, many)
	}
	return l
}

// mustFind fails the test unless Words finds just these blocks.
func mustFind(t *testing.T, name string, w []uint32, want ...Block) {
	t.Helper()
	for i, b := range mustScan(t, name, w, len(want)) {
		if b != want[i] {
			t.Fatalf("%s: block %d is\n%+v, want\n%+v", name, i, b, want[i])
		}
	}
}

// P6.1: the first example of the chapter.
func TestNewChip(t *testing.T) {
	const blocks = 5
	c := nor.New(blocks, 1)
	w := make([]uint32, blocks*64)
	for at := range w {
		var e api.Errno
		if w[at], e = c.Read(at); e != api.OK {
			t.Fatalf("Read(%d): error %d", at, e)
		}
	}
	mustFind(t, "a new chip", w, slices.Repeat([]Block{{Head: page.Free, Kinds: noPages}}, blocks)...)
}

// P6.1
func TestLengths(t *testing.T) {
	lengths := []int{64 * 128, 64*64 + 1<<20, 1 << 20}
	for n := range 64 * 67 {
		lengths = append(lengths, n)
	}
	all := blank(slices.Max(lengths))
	for _, n := range lengths {
		if n%64 == 0 && n >= 64 && n <= 64*64 {
			mustScan(t, "whole blocks", all[:n], n/64)
			continue
		}
		if l, e := Words(all[:n]); e != api.ErrForm || len(l) != 0 {
			t.Fatalf("Words of %d: %d blocks, error %d", n, len(l), e)
		}
	}
	if l, e := Words(nil); e != api.ErrForm || len(l) != 0 {
		t.Errorf("Words of nil: %d blocks, error %d", len(l), e)
	}
}

// P6.1
func TestGoodHead(t *testing.T) {
	for _, count := range []uint32{0, 1, 7, 0x12345678, 0x7fffffff, 0x80000000} {
		mustFind(t, "a header", headed(count), Block{Head: page.Good, Count: count})
	}
}

// P6.1: the pages of a block without a good header are not told, whatever they are.
func TestOtherHeads(t *testing.T) {
	pages := headed(7)
	for p := range 8 {
		copy(pages[4+7*p:], page.Words(page.Page{Sector: 5, Seq: 9, Data: [4]uint32{1, 2, 3, 4}}))
	}
	for _, rest := range [][]uint32{pages, headed(7), make([]uint32, 64)} {
		free := with(rest, 0, ones, ones, ones, ones)
		mustFind(t, "no header", free, Block{Head: page.Free, Kinds: noPages})
		for name, head := range map[string][]uint32{
			"no last word":         {0xb10c0001, 7, 0xfffffff8, ones},
			"an ended one":         {0xb10c0001, 7, 0xfffffff8, 0},
			"the mark alone":       {0xb10c0001, ones, ones, ones},
			"another mark":         {0xb10c0003, 7, 0xfffffff8, last},
			"no complement":        {0xb10c0001, 7, 7, last},
			"a count above 2^31":   {0xb10c0001, 0x80000001, 0x7ffffffe, last},
			"zeros":                {0, 0, 0, 0},
			"the end of a page":    {2, 3, 4, last},
			"one bit too many":     {0xb10c0001, 7, 0xfffffff8, last | 1},
			"one bit of the free":  {ones, ones, ones, 0x7fffffff},
			"the last word's bits": {ones, ones, ones, last},
		} {
			mustFind(t, name, with(rest, 0, head...), Block{Head: page.Torn, Kinds: noPages})
		}
	}
}

// P6.1: each page is found where it is, and of its kind.
func TestEachPage(t *testing.T) {
	for name, c := range map[string]struct {
		words []uint32
		what  page.Page
		kind  int
	}{
		"a page":         {[]uint32{5, 9, 1, 2, 3, 4, last}, page.Page{Sector: 5, Seq: 9, Data: [4]uint32{1, 2, 3, 4}}, page.Good},
		"the first":      {[]uint32{0, 1, 0, 0, 0, 0, last}, page.Page{Seq: 1}, page.Good},
		"a gone one":     {[]uint32{0x800001ff, 0x80000000, 0, 0, 0, 0, last}, page.Page{Sector: 511, Seq: 1 << 31, Gone: true}, page.Good},
		"a free one":     {blank(7), page.Page{}, page.Free},
		"a torn one":     {[]uint32{5, 9, 1, 2, 3, 4, ones}, page.Page{}, page.Torn},
		"a begun one":    {[]uint32{5, ones, ones, ones, ones, ones, ones}, page.Page{}, page.Torn},
		"a wrong sector": {[]uint32{512, 9, 1, 2, 3, 4, last}, page.Page{}, page.Torn},
		"a wrong seq":    {[]uint32{5, 0, 1, 2, 3, 4, last}, page.Page{}, page.Torn},
		"gone with data": {[]uint32{0x80000005, 9, 1, 2, 3, 4, last}, page.Page{}, page.Torn},
		"zeros":          {make([]uint32, 7), page.Page{}, page.Torn},
	} {
		for p, at := range []int{4, 11, 18, 25, 32, 39, 46, 53} {
			want := Block{Head: page.Good, Count: 3}
			want.Kinds[p], want.Pages[p] = c.kind, c.what
			mustFind(t, name, with(headed(3), at, c.words...), want)
		}
	}
}

// P6.1: a page in any block is told in this block alone.
func TestEachBlock(t *testing.T) {
	for _, blocks := range []int{1, 5, 64} {
		for i := range blocks {
			w := slices.Repeat(headed(2), blocks)
			copy(w[64*i:], headed(uint32(100+i)))
			copy(w[64*i+18:], page.Words(page.Page{Sector: 9, Seq: 4}))
			want := slices.Repeat([]Block{{Head: page.Good, Count: 2}}, blocks)
			want[i].Count = uint32(100 + i)
			want[i].Kinds[2], want[i].Pages[2] = page.Good, page.Page{Sector: 9, Seq: 4}
			mustFind(t, "one block has a page", w, want...)
		}
	}
}

// kindsOf goes through all combinations of kinds, 3 among them that no page has.
func kindsOf(yield func([8]int) bool) {
	for n := range 1 << 16 {
		var kinds [8]int
		for p := range kinds {
			kinds[p] = n >> (2 * p) & 3
		}
		if !yield(kinds) {
			return
		}
	}
}

// slowNext looks from each page on for one that is not free.
func slowNext(kinds [8]int) int {
	for p := range kinds {
		if !slices.ContainsFunc(kinds[p:], func(kind int) bool { return kind != page.Free }) {
			return p
		}
	}
	return -1
}

// P6.2
func TestNextAndEmpty(t *testing.T) {
	for kinds := range kindsOf {
		for _, head := range []int{page.Free, page.Good, page.Torn} {
			want, empty := -1, false
			if head == page.Good {
				want, empty = slowNext(kinds), kinds == [8]int{}
			}
			b := Block{Head: head, Kinds: kinds}
			if Next(b) != want || Empty(b) != empty {
				t.Fatalf("head %d, kinds %v: Next %d, Empty %v, want %d, %v", head, kinds, Next(b), Empty(b), want, empty)
			}
		}
	}
}

// P6.2
func TestNextByHand(t *testing.T) {
	for _, c := range []struct {
		kinds [8]int
		want  int
	}{
		{[8]int{}, 0},
		{[8]int{page.Good}, 1},
		{[8]int{page.Torn}, 1},
		{[8]int{page.Good, page.Torn}, 2},
		{[8]int{0, 0, 0, page.Good}, 4},
		{[8]int{page.Good, 0, page.Torn, 0, 0, page.Good, 0, 0}, 6},
		{[8]int{0, 0, 0, 0, 0, 0, page.Torn, 0}, 7},
		{[8]int{0, 0, 0, 0, 0, 0, 0, page.Torn}, -1},
		{[8]int{0, 0, 0, 0, 0, 0, 0, page.Good}, -1},
		{[8]int{1, 1, 1, 1, 1, 1, 1, 1}, -1},
		{noPages, -1},
	} {
		b := Block{Head: page.Good, Kinds: c.kinds}
		if Next(b) != c.want || Empty(b) != (c.want == 0) {
			t.Errorf("kinds %v: Next %d, Empty %v, want %d", c.kinds, Next(b), Empty(b), c.want)
		}
	}
}

// P6.2: numbers that are no kinds, and what a block says beside its head and kinds.
func TestNextOfOddBlocks(t *testing.T) {
	if Empty(Block{}) || Next(Block{}) != -1 {
		t.Error("the zero block can be written")
	}
	for _, odd := range []int{-1, 3, 4, 1 << 32, 1<<32 + 1, math.MinInt, math.MaxInt} {
		if b := (Block{Head: odd}); Empty(b) || Next(b) != -1 {
			t.Errorf("head %d: Next %d, Empty %v", odd, Next(b), Empty(b))
		}
		if b := (Block{Head: page.Good, Kinds: [8]int{0, 0, odd}}); Empty(b) || Next(b) != 3 {
			t.Errorf("kind %d: Next %d, Empty %v", odd, Next(b), Empty(b))
		}
	}
	b := Block{Head: page.Good, Count: ones}
	for p := range b.Pages {
		b.Pages[p] = page.Page{Sector: 5, Seq: 9, Data: [4]uint32{1, 2, 3, 4}}
	}
	if !Empty(b) || Next(b) != 0 {
		t.Errorf("free kinds: Next %d, Empty %v", Next(b), Empty(b))
	}
}

// P6.3
func TestCounts(t *testing.T) {
	good := func(count uint32) Block { return Block{Head: page.Good, Count: count} }
	for name, c := range map[string]struct {
		l    []Block
		want uint32
	}{
		"nil":               {nil, 0},
		"no blocks":         {[]Block{}, 0},
		"the zero block":    {[]Block{{}}, 0},
		"none is good":      {[]Block{{Head: page.Free, Count: 5}, {Head: page.Torn, Count: 6}, {Head: 3, Count: 7}, {Head: -1, Count: 8}}, 0},
		"one":               {[]Block{good(5)}, 5},
		"a count of 0":      {[]Block{good(0)}, 0},
		"the first":         {[]Block{good(7), good(3), good(5)}, 7},
		"one between":       {[]Block{good(3), good(7), good(5)}, 7},
		"the last":          {[]Block{good(3), good(5), good(7)}, 7},
		"the same":          {[]Block{good(7), good(7)}, 7},
		"others are higher": {[]Block{{Head: page.Free, Count: 9}, good(5), {Head: page.Torn, Count: 8}, good(2)}, 5},
		"the highest bit":   {[]Block{good(0x7fffffff), good(0x80000000), good(1)}, 0x80000000},
		"all bits":          {[]Block{good(ones), good(0x80000000)}, ones},
		"pages don't count": {[]Block{{Head: page.Good, Count: 2, Kinds: noPages, Pages: [8]page.Page{{Seq: 9}}}}, 2},
		"many":              {slices.Concat(slices.Repeat([]Block{good(4)}, 200), []Block{good(6)}), 6},
	} {
		if got := Counts(c.l); got != c.want {
			t.Errorf("%s: Counts = %d, want %d", name, got, c.want)
		}
	}
}

// slowPage takes the form of a page as ranges of numbers, without package page.
func slowPage(w []uint32) (page.Page, int) {
	if slices.Min(w) == ones {
		return page.Page{}, 0
	}
	p := page.Page{Sector: w[0] % 0x80000000, Seq: w[1], Gone: w[0] >= 0x80000000, Data: [4]uint32{w[2], w[3], w[4], w[5]}}
	if p.Sector > 511 || w[1] < 1 || w[1] > 0x80000000 || w[6] != last || p.Gone && slices.Max(w[2:6]) > 0 {
		return page.Page{}, 2
	}
	return p, 1
}

// slowBlock takes the form of a block as numbers, without package page.
func slowBlock(w []uint32) Block {
	if w[0] != 0xb10c0001 || w[1] > 0x80000000 || w[2] != ones-w[1] || w[3] != last {
		b := Block{Head: 2, Kinds: noPages}
		if slices.Min(w[:4]) == ones {
			b.Head = 0
		}
		return b
	}
	b := Block{Head: 1, Count: w[1]}
	for p := range 8 {
		b.Pages[p], b.Kinds[p] = slowPage(w[4+7*p : 11+7*p])
	}
	return b
}

// mixedPage returns words that are those of a page, or close to them.
func mixedPage(r *rand.Rand) []uint32 {
	p := page.Page{Sector: uint32(r.Intn(512)), Seq: 1 + r.Uint32()>>1, Gone: r.Intn(2) == 0}
	if !p.Gone {
		p.Data[r.Intn(4)] = r.Uint32()
	}
	w := page.Words(p)
	switch r.Intn(4) {
	case 0:
		w[r.Intn(7)] ^= 1 << r.Intn(32)
	case 1:
		w[r.Intn(7)] = ones
	}
	return w
}

// mixedBlock returns a block that is about what a store writes, its unused words too.
func mixedBlock(r *rand.Rand) []uint32 {
	w := headed(r.Uint32() >> 1)
	for p := range r.Intn(9) {
		copy(w[4+7*p:], mixedPage(r))
	}
	for at := 60; at < 64; at++ {
		w[at] = r.Uint32()
	}
	switch r.Intn(6) {
	case 0:
		copy(w, blank(4))
	case 1:
		w[r.Intn(4)] = ones
	case 2:
		w[3] = 0
	case 3:
		w[r.Intn(64)] ^= 1 << r.Intn(32)
	}
	return w
}

// mixedFlash returns a flash of so many such blocks.
func mixedFlash(r *rand.Rand, blocks int) []uint32 {
	var w []uint32
	for range blocks {
		w = append(w, mixedBlock(r)...)
	}
	return w
}

// P6.1 to P6.3: mixed flashes, held against the slow reading.
func TestMixedFlashes(t *testing.T) {
	r := rand.New(rand.NewSource(6))
	heads, nexts := map[int]int{}, map[int]int{}
	for range 3000 {
		blocks := 1 + r.Intn(64)
		w := mixedFlash(r, blocks)
		most, want := uint32(0), []Block{}
		for i := range blocks {
			b := slowBlock(w[64*i : 64*i+64])
			next := -1
			if b.Head == 1 {
				most, next = max(most, b.Count), slowNext(b.Kinds)
			}
			if Next(b) != next || Empty(b) != (next == 0) {
				t.Fatalf("%+v: Next %d, Empty %v, want %d", b, Next(b), Empty(b), next)
			}
			heads[b.Head]++
			nexts[next]++
			want = append(want, b)
		}
		mustFind(t, "mixed", w, want...)
		if got := Counts(want); got != most {
			t.Fatalf("Counts = %d, want %d", got, most)
		}
	}
	if len(heads) != 3 || len(nexts) != 9 {
		t.Errorf("some head or some next page never came: %v, %v", heads, nexts)
	}
}

// P6.4
func TestUnusedWords(t *testing.T) {
	r := rand.New(rand.NewSource(7))
	for range 300 {
		w := with(mixedBlock(r), 60, ones, ones, ones, ones)
		want := mustScan(t, "free words", w, 1)
		for _, more := range [][]uint32{
			{0, 0, 0, 0}, {0xb10c0001, 7, 0xfffffff8, last}, {ones, ones, ones, last}, {5, 9, 1, 2},
			{r.Uint32(), r.Uint32(), r.Uint32(), r.Uint32()},
		} {
			mustFind(t, "other words behind the pages", with(w, 60, more...), want...)
		}
		for at := 60; at < 64; at++ {
			mustFind(t, "another word behind the pages", with(w, at, 0), want...)
		}
	}
}

// P6.4
func TestOtherBlocks(t *testing.T) {
	r := rand.New(rand.NewSource(8))
	for range 300 {
		blocks := 2 + r.Intn(8)
		i := r.Intn(blocks)
		b := mixedBlock(r)
		alone := mustScan(t, "alone", b, 1)[0]
		for _, others := range [][]uint32{
			mixedFlash(r, blocks), mixedFlash(r, blocks), slices.Repeat(b, blocks),
			blank(64 * blocks), make([]uint32, 64*blocks), slices.Repeat(headed(9), blocks),
		} {
			if l := mustScan(t, "among others", with(others, 64*i, b...), blocks); l[i] != alone {
				t.Fatalf("block %d of %d is\n%+v, alone\n%+v", i, blocks, l[i], alone)
			}
		}
	}
}

// P6.1, P6.2: what is found while a header and pages are programmed, word by word.
func TestWordByWord(t *testing.T) {
	w, want := blank(64), Block{Head: page.Free, Kinds: noPages}
	mustFind(t, "erased", w, want)
	want.Head = page.Torn
	for at, v := range page.Header(1) {
		w[at] = v
		if at == 3 {
			want = Block{Head: page.Good, Count: 1}
		}
		mustFind(t, "a header", w, want)
	}
	if !Empty(want) {
		t.Error("the block is not empty")
	}
	for p := range 8 {
		what := page.Page{Sector: uint32(p), Seq: 1, Data: [4]uint32{1, 2, 3, 4}}
		for i, v := range page.Words(what) {
			w[4+7*p+i] = v
			want.Kinds[p] = page.Torn
			if i == 6 {
				want.Kinds[p], want.Pages[p] = page.Good, what
			}
			mustFind(t, "a page", w, want)
		}
		next := p + 1
		if p == 7 {
			next = -1
		}
		if b := mustScan(t, "a page", w, 1)[0]; Next(b) != next || Empty(b) {
			t.Errorf("after page %d: Next %d, Empty %v", p, Next(b), Empty(b))
		}
	}
}

// P6.1: the words come from a flash, by a driver.
func TestThroughDriver(t *testing.T) {
	const blocks = 5
	d := driver.New(cfi.New(nor.New(blocks, 10)), blocks)
	what := page.Page{Sector: 3, Seq: 6, Data: [4]uint32{1, 0, 0, 4}}
	for at, words := range map[int][]uint32{64: page.Header(2), page.At(1, 2): page.Words(what)} {
		if e := d.Program(at, words...); e != api.OK {
			t.Fatalf("Program(%d): error %d", at, e)
		}
	}
	var w []uint32
	for i := range blocks {
		l, e := d.Read(64*i, 64)
		if e != api.OK {
			t.Fatalf("Read of block %d: error %d", i, e)
		}
		w = append(w, l...)
	}
	want := slices.Repeat([]Block{{Head: page.Free, Kinds: noPages}}, blocks)
	want[1] = Block{Head: page.Good, Count: 2, Kinds: [8]int{2: page.Good}, Pages: [8]page.Page{2: what}}
	mustFind(t, "programmed", w, want...)
}

// P6.1: going through the pages can end before the last one.
func TestSomePages(t *testing.T) {
	var at []uint32
	w := make([]uint32, 64)
	for i := range w {
		w[i] = uint32(i)
	}
	for p, words := range pagesOf(w) {
		if p == 3 {
			break
		}
		at = append(at, words[0])
	}
	if !slices.Equal(at, []uint32{4, 11, 18}) {
		t.Errorf("the pages begin at %v", at)
	}
}

// R4, R6: the words and blocks that are passed stay, and what was found stays when they change.
func TestArgumentsStay(t *testing.T) {
	r := rand.New(rand.NewSource(9))
	for range 100 {
		// What is behind the words belongs to the caller, too.
		spare := append(mixedFlash(r, 4), 1, 2, 3)
		before := slices.Clone(spare)
		w := spare[:4*64]
		first, second := mustScan(t, "first", w, 4), mustScan(t, "second", w, 4)
		if !slices.Equal(spare, before) {
			t.Fatal("Words changed the words")
		}
		if !slices.Equal(first, second) {
			t.Fatal("Words found something else the second time")
		}
		Counts(first)
		Next(first[0])
		Empty(first[0])
		clear(w)
		if !slices.Equal(first, second) {
			t.Fatal("the blocks changed")
		}
		clear(second)
		mustFind(t, "again", before[:4*64], first...)
	}
}
