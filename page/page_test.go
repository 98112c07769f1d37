package page

import (
	"math"
	"math/bits"
	"math/rand"
	"slices"
	"testing"

	"dioptra/api"
)

const (
	ones = 0xffffffff
	last = 0x5afec0de
)

// blank returns so many words with all bits set.
func blank(many int) []uint32 {
	return slices.Repeat([]uint32{ones}, many)
}

// with returns a copy of w with the word at at replaced.
func with(w []uint32, at int, v uint32) []uint32 {
	l := slices.Clone(w)
	l[at] = v
	return l
}

// rightPages lists valid pages, those at the edges among them.
func rightPages() []Page {
	var l []Page
	for _, sector := range []uint32{0, 1, 5, 255, 256, 510, 511} {
		for _, seq := range []uint32{1, 2, 9, 0x12345678, 0x7fffffff, 0x80000000} {
			l = append(l, Page{Sector: sector, Seq: seq, Gone: true})
			for _, data := range [][4]uint32{
				{}, {1, 2, 3, 4}, {0, 0, 0, 1}, {0x80000000, 0, 0, 0}, {ones, ones, ones, ones}, {last, last, last, last},
			} {
				l = append(l, Page{Sector: sector, Seq: seq, Data: data})
			}
		}
	}
	return l
}

// wrongPages lists pages that are not valid, each for a single reason, and some for several.
func wrongPages() []Page {
	l := []Page{
		{},
		{Sector: 5},
		{Sector: 5, Data: [4]uint32{1, 2, 3, 4}},
		{Sector: 5, Gone: true},
		{Sector: 5, Seq: 0x80000001},
		{Sector: 5, Seq: 0xc0000000},
		{Sector: 5, Seq: ones},
		{Sector: 5, Seq: ones, Gone: true},
		{Sector: 513, Seq: 1},
		{Sector: 0x80000000, Seq: 1},
		{Sector: 0x80000005, Seq: 1},
		{Sector: 0x80000005, Seq: 1, Gone: true},
		{Sector: ones, Seq: 1},
		{Sector: ones, Seq: ones, Gone: true, Data: [4]uint32{ones, ones, ones, ones}},
		{Sector: 512, Seq: 1, Gone: true},
	}
	for n := 9; n < 32; n++ {
		l = append(l, Page{Sector: 1 << n, Seq: 1})
	}
	for i := range 4 {
		for n := range 32 {
			p := Page{Sector: 5, Seq: 1, Gone: true}
			p.Data[i] = 1 << n
			l = append(l, p)
		}
	}
	return l
}

// mustBePage fails the test unless Read of w returns this page and this kind.
func mustBePage(t *testing.T, name string, w []uint32, want Page, kind int) {
	t.Helper()
	if p, k := Read(w); p != want || k != kind {
		t.Fatalf("%s: Read(%#x) = %+v, %d, want %+v, %d", name, w, p, k, want, kind)
	}
}

// mustBeCount fails the test unless Count of w returns this count and this kind.
func mustBeCount(t *testing.T, name string, w []uint32, want uint32, kind int) {
	t.Helper()
	if n, k := Count(w); n != want || k != kind {
		t.Fatalf("%s: Count(%#x) = %d, %d, want %d, %d", name, w, n, k, want, kind)
	}
}

// P4.2, P4.3: the kinds have these numbers.
func TestKinds(t *testing.T) {
	if Free != 0 || Good != 1 || Torn != 2 {
		t.Errorf("Free %d, Good %d, Torn %d", Free, Good, Torn)
	}
}

// P4.1
func TestRight(t *testing.T) {
	for _, p := range rightPages() {
		if !Right(p) {
			t.Errorf("Right(%+v) is false", p)
		}
	}
	for _, p := range wrongPages() {
		if Right(p) {
			t.Errorf("Right(%+v) is true", p)
		}
	}
}

// P4.1
func TestWords(t *testing.T) {
	for _, c := range []struct {
		p Page
		w []uint32
	}{
		{Page{Sector: 5, Seq: 9, Data: [4]uint32{1, 2, 3, 4}}, []uint32{5, 9, 1, 2, 3, 4, last}},
		{Page{Sector: 5, Seq: 9}, []uint32{5, 9, 0, 0, 0, 0, last}},
		{Page{Sector: 5, Seq: 9, Gone: true}, []uint32{0x80000005, 9, 0, 0, 0, 0, last}},
		{Page{Seq: 1}, []uint32{0, 1, 0, 0, 0, 0, last}},
		{Page{Seq: 1, Gone: true}, []uint32{0x80000000, 1, 0, 0, 0, 0, last}},
		{Page{Sector: 511, Seq: 1 << 31, Gone: true}, []uint32{0x800001ff, 1 << 31, 0, 0, 0, 0, last}},
		{Page{Sector: 511, Seq: 1 << 31, Data: [4]uint32{ones, 0, 0x80000000, ones}}, []uint32{511, 1 << 31, ones, 0, 0x80000000, ones, last}},
	} {
		if w := Words(c.p); !slices.Equal(w, c.w) {
			t.Errorf("Words(%+v) = %#x, want %#x", c.p, w, c.w)
		}
	}
	for _, p := range wrongPages() {
		if w := Words(p); len(w) != 0 {
			t.Errorf("Words(%+v) = %#x", p, w)
		}
	}
}

// P4.1, P4.3: what is done to the words of one call is not seen in another.
func TestWordsAreNew(t *testing.T) {
	p := Page{Sector: 5, Seq: 9, Data: [4]uint32{1, 2, 3, 4}}
	clear(Words(p))
	if w := Words(p); !slices.Equal(w, []uint32{5, 9, 1, 2, 3, 4, last}) {
		t.Errorf("Words = %#x", w)
	}
	clear(Header(7))
	if w := Header(7); !slices.Equal(w, []uint32{0xb10c0001, 7, 0xfffffff8, last}) {
		t.Errorf("Header = %#x", w)
	}
}

// P4.2
func TestReadFree(t *testing.T) {
	mustBePage(t, "seven free words", blank(7), Page{}, Free)
	for _, many := range []int{0, 1, 4, 6, 8, 14, 64} {
		mustBePage(t, "another number of free words", blank(many), Page{}, Torn)
	}
	for at := range 7 {
		for n := range 32 {
			mustBePage(t, "one bit is cleared", with(blank(7), at, ones&^(1<<n)), Page{}, Torn)
		}
	}
}

// P4.2
func TestReadGood(t *testing.T) {
	for _, c := range []struct {
		w []uint32
		p Page
	}{
		{[]uint32{5, 9, 1, 2, 3, 4, last}, Page{Sector: 5, Seq: 9, Data: [4]uint32{1, 2, 3, 4}}},
		{[]uint32{0, 1, 0, 0, 0, 0, last}, Page{Seq: 1}},
		{[]uint32{0x80000000, 1, 0, 0, 0, 0, last}, Page{Seq: 1, Gone: true}},
		{[]uint32{0x800001ff, 1 << 31, 0, 0, 0, 0, last}, Page{Sector: 511, Seq: 1 << 31, Gone: true}},
		{[]uint32{511, 1 << 31, ones, ones, ones, ones, last}, Page{Sector: 511, Seq: 1 << 31, Data: [4]uint32{ones, ones, ones, ones}}},
	} {
		mustBePage(t, "a page", c.w, c.p, Good)
	}
}

// P4.2
func TestReadTorn(t *testing.T) {
	good := []uint32{5, 9, 1, 2, 3, 4, last}
	gone := []uint32{0x80000005, 9, 0, 0, 0, 0, last}
	for name, w := range map[string][]uint32{
		"nil":                     nil,
		"no words":                {},
		"zeros":                   make([]uint32, 7),
		"without the last word":   good[:6],
		"without the first word":  good[1:],
		"a word more":             append(slices.Clone(good), ones),
		"two pages":               slices.Concat(good, good),
		"six words":               {5, 9, 1, 2, 3, last},
		"eight words":             {5, 9, 1, 2, 3, 4, 5, last},
		"sector 512":              with(good, 0, 512),
		"sector 512, gone":        with(gone, 0, 0x80000200),
		"a bit below the highest": with(good, 0, 0x40000005),
		"the first word free":     with(good, 0, ones),
		"seq 0":                   with(good, 1, 0),
		"seq 0, gone":             with(gone, 1, 0),
		"seq above 2^31":          with(good, 1, 0x80000001),
		"seq free":                with(good, 1, ones),
		"gone with data":          with(good, 0, 0x80000005),
		"gone with one bit":       with(gone, 5, 0x80000000),
		"gone with one low bit":   with(gone, 2, 1),
		"the last word free":      with(good, 6, ones),
		"the last word 0":         with(good, 6, 0),
		"the last word misses 1":  with(good, 6, last-2),
		"a header's mark":         with(good, 6, 0xb10c0001),
		"a header":                Header(7),
	} {
		mustBePage(t, name, w, Page{}, Torn)
	}
	for n := 9; n < 31; n++ {
		mustBePage(t, "a bit above the sector", with(good, 0, 5|1<<n), Page{}, Torn)
		mustBePage(t, "a bit above the sector", with(gone, 0, 0x80000005|1<<n), Page{}, Torn)
	}
}

// slowRead takes the form of a page as ranges of numbers, without Words.
func slowRead(w []uint32) (Page, int) {
	if len(w) != 7 {
		return Page{}, Torn
	}
	if slices.Min(w) == ones {
		return Page{}, Free
	}
	p := Page{Sector: w[0] % 0x80000000, Seq: w[1], Gone: w[0] >= 0x80000000, Data: [4]uint32{w[2], w[3], w[4], w[5]}}
	if p.Sector > 511 || w[1] < 1 || w[1] > 0x80000000 || w[6] != last || p.Gone && slices.Max(w[2:6]) > 0 {
		return Page{}, Torn
	}
	return p, Good
}

// slowCount takes the form of a header as ranges of numbers, without Header.
func slowCount(w []uint32) (uint32, int) {
	if len(w) != 4 {
		return 0, Torn
	}
	if slices.Min(w) == ones {
		return 0, Free
	}
	if w[0] != 0xb10c0001 || w[1] > 0x80000000 || w[2] != ones-w[1] || w[3] != last {
		return 0, Torn
	}
	return w[1], Good
}

// P4.2, P4.3: words about those of pages and of headers, held against the slow readings.
func TestMixedWords(t *testing.T) {
	r := rand.New(rand.NewSource(4))
	likely := []uint32{0, 1, 5, 511, 512, 0x7fffffff, 0x80000000, 0x80000001, 0x800001ff, 0x80000200, ones, last, 0xb10c0001}
	pages, kinds := rightPages(), [2][3]int{}
	for range 200000 {
		w := Words(pages[r.Intn(len(pages))])
		if r.Intn(2) == 0 {
			w = Header(r.Uint32() >> 1)
		}
		if r.Intn(8) == 0 {
			w = blank(len(w))
		}
		for range r.Intn(3) {
			at := r.Intn(len(w))
			switch r.Intn(3) {
			case 0:
				w[at] = likely[r.Intn(len(likely))]
			case 1:
				w[at] ^= 1 << r.Intn(32)
			case 2:
				w[at] = r.Uint32()
			}
		}
		p, kind := slowRead(w)
		mustBePage(t, "mixed", w, p, kind)
		kinds[0][kind]++
		n, kind := slowCount(w)
		mustBeCount(t, "mixed", w, n, kind)
		kinds[1][kind]++
	}
	for _, k := range kinds {
		if slices.Min(k[:]) == 0 {
			t.Errorf("some kind never came: %v", kinds)
		}
	}
}

// P4.3
func TestHeader(t *testing.T) {
	for _, c := range []struct {
		count uint32
		w     []uint32
	}{
		{0, []uint32{0xb10c0001, 0, ones, last}},
		{1, []uint32{0xb10c0001, 1, 0xfffffffe, last}},
		{7, []uint32{0xb10c0001, 7, 0xfffffff8, last}},
		{0x12345678, []uint32{0xb10c0001, 0x12345678, 0xedcba987, last}},
		{0x7fffffff, []uint32{0xb10c0001, 0x7fffffff, 0x80000000, last}},
		{0x80000000, []uint32{0xb10c0001, 0x80000000, 0x7fffffff, last}},
	} {
		if w := Header(c.count); !slices.Equal(w, c.w) {
			t.Errorf("Header(%d) = %#x, want %#x", c.count, w, c.w)
		}
		mustBeCount(t, "a header", c.w, c.count, Good)
	}
	for _, count := range []uint32{0x80000001, 0xc0000000, 0xfffffffe, ones} {
		if w := Header(count); len(w) != 0 {
			t.Errorf("Header(%d) = %#x", count, w)
		}
	}
}

// P4.3
func TestCountFree(t *testing.T) {
	mustBeCount(t, "four free words", blank(4), 0, Free)
	for _, many := range []int{0, 1, 3, 5, 7, 8, 64} {
		mustBeCount(t, "another number of free words", blank(many), 0, Torn)
	}
	for at := range 4 {
		for n := range 32 {
			mustBeCount(t, "one bit is cleared", with(blank(4), at, ones&^(1<<n)), 0, Torn)
		}
	}
}

// P4.3
func TestCountTorn(t *testing.T) {
	good := []uint32{0xb10c0001, 7, 0xfffffff8, last}
	for name, w := range map[string][]uint32{
		"nil":                     nil,
		"no words":                {},
		"zeros":                   make([]uint32, 4),
		"without the last word":   good[:3],
		"without the first word":  good[1:],
		"a word more":             append(slices.Clone(good), ones),
		"two headers":             slices.Concat(good, good),
		"count above 2^31":        {0xb10c0001, 0x80000001, 0x7ffffffe, last},
		"count free":              {0xb10c0001, ones, 0, last},
		"no complement":           with(good, 2, 7),
		"the complement free":     with(good, 2, ones),
		"the opposite":            with(good, 2, 0xfffffff9),
		"the last word free":      with(good, 3, ones),
		"the last word 0":         with(good, 3, 0),
		"the mark free":           with(good, 0, ones),
		"the mark 0":              with(good, 0, 0),
		"the words turned around": {last, 0xfffffff8, 7, 0xb10c0001},
		"a page":                  Words(Page{Sector: 5, Seq: 9}),
	} {
		mustBeCount(t, name, w, 0, Torn)
	}
	for at := range 4 {
		for n := range 32 {
			mustBeCount(t, "one bit differs", with(good, at, good[at]^1<<n), 0, Torn)
		}
	}
}

// P4.4
func TestAt(t *testing.T) {
	for _, c := range []struct{ block, page, want int }{
		{0, 0, 4}, {0, 1, 11}, {0, 7, 53}, {1, 0, 68}, {1, 2, 82}, {63, 0, 4036}, {63, 7, 4085},
	} {
		if got := At(c.block, c.page); got != c.want {
			t.Errorf("At(%d, %d) = %d, want %d", c.block, c.page, got, c.want)
		}
	}
	for block := range api.Max {
		for page := range api.Pages {
			if got := At(block, page); got != block*64+4+page*7 {
				t.Errorf("At(%d, %d) = %d", block, page, got)
			}
		}
	}
}

// P4.4
func TestAtOutside(t *testing.T) {
	outside := []int{-1, -2, -64, math.MinInt, math.MinInt + 1, math.MaxInt, math.MaxInt/64 + 1, 1 << 32, 1 << 58}
	for _, block := range append(outside, 64, 65) {
		for _, page := range append(outside, 0, 7, 8) {
			if got := At(block, page); got != -1 {
				t.Errorf("At(%d, %d) = %d", block, page, got)
			}
		}
	}
	for _, page := range append(outside, 8, 9) {
		for _, block := range []int{0, 1, 63} {
			if got := At(block, page); got != -1 {
				t.Errorf("At(%d, %d) = %d", block, page, got)
			}
		}
	}
}

// P4.5
func TestBack(t *testing.T) {
	for _, p := range rightPages() {
		mustBePage(t, "Words", Words(p), p, Good)
	}
	for sector := range uint32(512) {
		for _, p := range []Page{{Sector: sector, Seq: sector + 1, Data: [4]uint32{ones - sector}}, {Sector: sector, Seq: 1 << 31, Gone: true}} {
			mustBePage(t, "Words", Words(p), p, Good)
		}
	}
	for n := range 32 {
		for _, count := range []uint32{1<<n - 1, 1 << n} {
			mustBeCount(t, "Header", Header(count), count, Good)
		}
	}
}

// P4.5
func TestLastWordIncomplete(t *testing.T) {
	r := rand.New(rand.NewSource(5))
	var extras []uint32
	for n := range 32 {
		if last>>n&1 == 0 {
			extras = append(extras, 1<<n)
		}
	}
	if len(extras) != 32-bits.OnesCount32(last) || len(extras) == 0 {
		t.Fatalf("%d bits of the last word should be 0", len(extras))
	}
	for range 300 {
		extras = append(extras, r.Uint32()&^last|extras[0])
	}
	for _, extra := range append(extras, ones&^last) {
		for _, p := range rightPages() {
			mustBePage(t, "not complete", with(Words(p), 6, last|extra), Page{}, Torn)
		}
		for _, count := range []uint32{0, 7, 1 << 31} {
			mustBeCount(t, "not complete", with(Header(count), 3, last|extra), 0, Torn)
		}
	}
}

// P4.5: words that are programmed one by one are torn until the last one is.
func TestProgrammedWordByWord(t *testing.T) {
	for _, p := range rightPages() {
		for many := 1; many < 7; many++ {
			mustBePage(t, "the first words", slices.Concat(Words(p)[:many], blank(7-many)), Page{}, Torn)
		}
	}
	for _, count := range []uint32{0, 7, 1 << 31} {
		for many := 1; many < 4; many++ {
			mustBeCount(t, "the first words", slices.Concat(Header(count)[:many], blank(4-many)), 0, Torn)
		}
	}
}

// P4.2, P4.3, R6
func TestReadAndCountLeaveTheWords(t *testing.T) {
	for _, w := range [][]uint32{
		{5, 9, 1, 2, 3, 4, last}, {0x80000005, 9, 0, 0, 0, 0, last}, {5, 0, 1, 2, 3, 4, last}, blank(7),
		Header(7), with(Header(7), 2, 0), blank(4), blank(5),
	} {
		// What is behind the words belongs to the caller, too.
		spare := append(slices.Clone(w), 1, 2, 3)
		Read(spare[:len(w)])
		Count(spare[:len(w)])
		if !slices.Equal(spare, append(slices.Clone(w), 1, 2, 3)) {
			t.Errorf("Read or Count changed %#x to %#x", w, spare)
		}
	}
	w := []uint32{5, 9, 1, 2, 3, 4, last}
	p, _ := Read(w)
	clear(w)
	if p != (Page{Sector: 5, Seq: 9, Data: [4]uint32{1, 2, 3, 4}}) {
		t.Errorf("the page changed with the words: %+v", p)
	}
}
