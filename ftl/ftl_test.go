package ftl

import (
	"math"
	"math/rand"
	"slices"
	"testing"

	"dioptra/api"
	"dioptra/cfi"
	"dioptra/driver"
	"dioptra/latest"
	"dioptra/nor"
	"dioptra/page"
	"dioptra/scan"
)

const (
	ones    = ^uint32(0)
	endless = 1 << 30 // erasures of a block that never wears out
	top     = 1 << 31 // the greatest Seq, and the greatest count
)

// value is what a sector has.
type value = [4]uint32

// calls are those that open a store.
var calls = map[string]func(*driver.Driver) (*Store, api.Errno){"Format": Format, "Mount": Mount}

// drive returns a new driver of all blocks of a chip, over a new flash.
func drive(c *nor.Chip) *driver.Driver {
	return driver.New(cfi.New(c), c.Blocks())
}

// mustBe fails the test unless a call returned this error.
func mustBe(t *testing.T, name string, got, want api.Errno) {
	t.Helper()
	if got != want {
		t.Fatalf("%s: error %d, want %d", name, got, want)
	}
}

// mustFormat returns a new store on a chip, and its driver.
func mustFormat(t *testing.T, c *nor.Chip) (*Store, *driver.Driver) {
	t.Helper()
	d := drive(c)
	s, e := Format(d)
	if s == nil || e != api.OK {
		t.Fatalf("Format: error %d", e)
	}
	return s, d
}

// mustMount returns the store that is on a chip.
func mustMount(t *testing.T, c *nor.Chip) *Store {
	t.Helper()
	s, e := Mount(drive(c))
	if s == nil || e != api.OK {
		t.Fatalf("Mount: error %d", e)
	}
	return s
}

// mustRead fails the test unless a sector has this value.
func mustRead(t *testing.T, name string, s *Store, sector int, want value) {
	t.Helper()
	if got, e := s.Read(sector); got != want || e != api.OK {
		t.Fatalf("%s: Read(%d) = %v, %d, want %v", name, sector, got, e, want)
	}
}

// mustHave fails the test unless the sectors of a store have just these values.
func mustHave(t *testing.T, name string, s *Store, want []value) {
	t.Helper()
	if s.Sectors() != len(want) {
		t.Fatalf("%s: %d sectors, want %d", name, s.Sectors(), len(want))
	}
	for sector, v := range want {
		mustRead(t, name, s, sector, v)
	}
}

// mustHold fails the test unless a chip has these words.
func mustHold(t *testing.T, name string, c *nor.Chip, want []uint32) {
	t.Helper()
	for at, w := range c.Words() {
		if w != want[at] {
			t.Fatalf("%s: word %d of block %d is %#x, want %#x", name, at%64, at/64, w, want[at])
		}
	}
}

// mustWear fails the test unless the blocks of a chip were erased so often.
func mustWear(t *testing.T, name string, c *nor.Chip, want ...int) {
	t.Helper()
	for b, n := range want {
		if c.Wear(b) != n {
			t.Fatalf("%s: block %d was erased %d times, want %d", name, b, c.Wear(b), n)
		}
	}
}

// mustCount fails the test unless these are the counts of a store.
func mustCount(t *testing.T, name string, s *Store, want ...uint32) {
	t.Helper()
	if got := s.Counts(); !slices.Equal(got, want) {
		t.Fatalf("%s: Counts = %v, want %v", name, got, want)
	}
}

// found returns what is on a chip.
func found(t *testing.T, c *nor.Chip) []scan.Block {
	t.Helper()
	l, e := scan.Words(c.Words())
	mustBe(t, "scan", e, api.OK)
	return l
}

// blank returns an erased block without a header.
func blank() []uint32 {
	return slices.Repeat([]uint32{ones}, 64)
}

// put returns a block that has these words from at on.
func put(w []uint32, at int, more ...uint32) []uint32 {
	copy(w[at:], more)
	return w
}

// block returns one that has a header, and these words as its first pages.
func block(count uint32, pages ...[]uint32) []uint32 {
	w := put(blank(), 0, 0xb10c0001, count, ^count, 0x5afec0de)
	for p, words := range pages {
		put(w, 4+7*p, words...)
	}
	return w
}

// data returns the words of a page whose value is told by its numbers.
func data(sector, seq uint32) []uint32 {
	return []uint32{sector, seq, sector, seq, 3, 4, 0x5afec0de}
}

// gone returns the words of a page of a sector that was trimmed.
func gone(sector, seq uint32) []uint32 {
	return []uint32{sector | 1<<31, seq, 0, 0, 0, 0, 0x5afec0de}
}

// torn returns the words of a page that is not complete.
func torn() []uint32 {
	return []uint32{5, 9, ones, ones, ones, ones, ones}
}

// free returns the words of a page that can be written.
func free() []uint32 {
	return blank()[:7]
}

// valueOf is the value that data gives to a sector.
func valueOf(sector, seq uint32) value {
	return value{sector, seq, 3, 4}
}

// fill returns pages of these sectors, all of one Seq.
func fill(seq uint32, sectors ...uint32) [][]uint32 {
	var pages [][]uint32
	for _, n := range sectors {
		pages = append(pages, data(n, seq))
	}
	return pages
}

// chip returns one that consists of these blocks, and never wears out.
func chip(blocks ...[]uint32) *nor.Chip {
	return nor.Of(slices.Concat(blocks...), endless)
}

// fresh returns a value that no call before gave to a sector.
func fresh(r *rand.Rand, i int) value {
	return value{uint32(i) + 1, r.Uint32(), r.Uint32(), r.Uint32()}
}

// change writes or trims a sector, and returns the value that it gives.
func change(r *rand.Rand, i int, s *Store, sector int) (value, api.Errno) {
	if r.Intn(5) == 0 {
		return value{}, s.Trim(sector)
	}
	v := fresh(r, i)
	return v, s.Write(sector, v)
}

// P8.1 to P8.4: the example of the chapter.
func TestExample(t *testing.T) {
	s, _ := mustFormat(t, nor.New(5, endless))
	if s.Sectors() != 12 {
		t.Errorf("%d sectors", s.Sectors())
	}
	mustRead(t, "a new store", s, 0, value{})
}

// P8.1
func TestSectors(t *testing.T) {
	for _, blocks := range []int{5, 6, 7, 8, 15, 31, 32, 33, 63, 64} {
		s, d := mustFormat(t, nor.New(blocks, endless))
		mounted, e := Mount(d)
		mustBe(t, "Mount", e, api.OK)
		for name, s := range map[string]*Store{"Format": s, "Mount": mounted} {
			if s.Sectors() != 6*(blocks-3) {
				t.Errorf("%s of %d blocks: %d sectors", name, blocks, s.Sectors())
			}
			mustHave(t, name, s, make([]value, 6*(blocks-3)))
		}
	}
}

// P8.1: the driver's number counts, even if the flash has more blocks.
func TestSectorsAreTheDrivers(t *testing.T) {
	c := nor.New(9, endless)
	s, e := Format(driver.New(cfi.New(c), 6))
	mustBe(t, "Format", e, api.OK)
	if s.Sectors() != 18 || len(s.Counts()) != 6 {
		t.Errorf("%d sectors, %d counts", s.Sectors(), len(s.Counts()))
	}
	mustWear(t, "Format", c, 1, 1, 1, 1, 1, 1, 0, 0, 0)
}

// P8.1, P8.3, P8.4, P8.7, R5
func TestNoStore(t *testing.T) {
	for name, s := range map[string]*Store{"nil": nil, "zero": {}} {
		for _, sector := range []int{0, 1, -1, math.MinInt, math.MaxInt} {
			v, e := s.Read(sector)
			if v != (value{}) {
				t.Errorf("%s: Read = %v", name, v)
			}
			mustBe(t, name+": Read", e, api.ErrNil)
			mustBe(t, name+": Write", s.Write(sector, value{1}), api.ErrNil)
			mustBe(t, name+": Trim", s.Trim(sector), api.ErrNil)
		}
		if s.Sectors() != 0 || s.Retired() != 0 || len(s.Counts()) != 0 {
			t.Errorf("%s: %d sectors, %d retired, counts %v", name, s.Sectors(), s.Retired(), s.Counts())
		}
	}
}

// P8.2
func TestWrongDrivers(t *testing.T) {
	for name, open := range calls {
		for _, d := range []*driver.Driver{nil, {}} {
			s, e := open(d)
			if s != nil {
				t.Errorf("%s of no driver is a store", name)
			}
			mustBe(t, name+" of no driver", e, api.ErrNil)
		}
		for blocks := 1; blocks <= 4; blocks++ {
			for _, c := range []*nor.Chip{nor.New(blocks, endless), nor.New(64, endless)} {
				words := c.Words()
				d := driver.New(cfi.New(c), blocks)
				for range 2 {
					s, e := open(d)
					if s != nil {
						t.Errorf("%s of %d blocks is a store", name, blocks)
					}
					mustBe(t, name+" of few blocks", e, api.ErrArg)
					mustHold(t, name+" of few blocks", c, words)
					c.Cut()
				}
			}
		}
	}
}

// P8.2: errors of the driver end the call.
func TestDriverErrors(t *testing.T) {
	for name, open := range calls {
		off := nor.New(5, endless)
		off.Cut()
		locked := drive(nor.New(7, endless))
		mustBe(t, "Lock", locked.Lock(3, true), api.OK)
		for _, x := range []struct {
			d    *driver.Driver
			want api.Errno
		}{
			{drive(off), api.ErrOff},
			{locked, api.ErrLock},
			{driver.New(new(cfi.Flash), 5), api.ErrNil},
			{driver.New(cfi.New(nor.New(5, endless)), 6), api.ErrOut},
		} {
			s, e := open(x.d)
			if s != nil {
				t.Errorf("%s: a store beside error %d", name, e)
			}
			mustBe(t, name, e, x.want)
		}
	}
}

// P8.2: a lock matters only where something is to be renewed.
func TestMountOfLockedBlocks(t *testing.T) {
	c := chip(block(1, data(3, 1)), block(1), blank(), block(1), block(1))
	for b := range 5 {
		d := drive(c)
		mustBe(t, "Lock", d.Lock(b, true), api.OK)
		words := c.Words()
		s, e := Mount(d)
		if b != 2 {
			mustBe(t, "Mount", e, api.OK)
			mustRead(t, "Mount", s, 3, valueOf(3, 1))
			c = chip(block(1, data(3, 1)), block(1), blank(), block(1), block(1))
			continue
		}
		mustBe(t, "Mount", e, api.ErrLock)
		mustHold(t, "Mount", c, words)
	}
}

// P8.2: Format makes every block empty, whatever was in it.
func TestFormat(t *testing.T) {
	r := rand.New(rand.NewSource(1))
	words := make([]uint32, 6*64)
	for i := range words {
		words[i] = r.Uint32()
	}
	for _, c := range []*nor.Chip{nor.New(6, endless), nor.Of(words, endless), nor.Of(make([]uint32, 6*64), endless)} {
		for n := range 4 {
			s, d := mustFormat(t, c)
			mustHold(t, "Format", c, slices.Repeat(block(uint32(n+1)), 6))
			mustHave(t, "Format", s, make([]value, 18))
			mustCount(t, "Format", s, slices.Repeat([]uint32{uint32(n + 1)}, 6)...)
			mustWear(t, "Format", c, slices.Repeat([]int{n + 1}, 6)...)
			mustBe(t, "Write", s.Write(n, value{7}), api.OK)
			mounted, e := Mount(d)
			mustBe(t, "Mount", e, api.OK)
			mustRead(t, "Mount", mounted, n, value{7})
		}
	}
}

// P8.2, P8.7: the counts of blocks that are renewed.
func TestNewCounts(t *testing.T) {
	bad := [][]uint32{
		blank(),
		put(block(9), 3, 0),
		put(block(9), 3, ones),
		put(block(9), 3, 0x5afec0df),
		put(block(9), 0, 0xb10c0000),
		put(block(9), 2, 9),
		put(block(9), 1, top+1, top-2),
		make([]uint32, 64),
	}
	for _, none := range bad {
		for name, x := range map[string]struct {
			open   func(*driver.Driver) (*Store, api.Errno)
			blocks [][]uint32
			want   []uint32
		}{
			"nothing good":            {Mount, [][]uint32{none, none, none, none, none}, []uint32{1, 1, 1, 1, 1}},
			"nothing good, formatted": {Format, [][]uint32{none, none, none, none, none}, []uint32{1, 1, 1, 1, 1}},
			"the greatest count":      {Mount, [][]uint32{block(4), none, block(7), none, block(6)}, []uint32{4, 7, 7, 7, 6}},
			"a count of 0":            {Mount, [][]uint32{block(0), none, block(0), block(0), block(0)}, []uint32{0, 1, 0, 0, 0}},
			"a great count":           {Mount, [][]uint32{block(4), none, block(top), block(3), block(2)}, []uint32{4, top, top, 3, 2}},
			"one more":                {Format, [][]uint32{block(4), block(0), block(7), block(top - 1), block(1000)}, []uint32{5, 1, 8, top, 1001}},
			"one more, and the last":  {Format, [][]uint32{block(4), block(0), block(7), block(12), none}, []uint32{5, 1, 8, 13, 13}},
			"no greater count":        {Format, [][]uint32{block(top), block(top), block(1), block(top), block(2)}, []uint32{top, top, 2, top, 3}},
		} {
			c := chip(x.blocks...)
			s, e := x.open(drive(c))
			mustBe(t, name, e, api.OK)
			mustCount(t, name, s, x.want...)
			for b, found := range found(t, c) {
				if found.Head != page.Good || found.Count != x.want[b] {
					t.Errorf("%s: block %d has the header %d, %d", name, b, found.Head, found.Count)
				}
			}
		}
	}
}

// P8.2: a block is renewed by these changes, in this order.
func TestChangesOfRenewal(t *testing.T) {
	full := func(last ...uint32) []uint32 {
		return put(block(8, data(3, 1), data(4, 2), torn()), 3, last...)
	}
	for name, x := range map[string]struct {
		open func(*driver.Driver) (*Store, api.Errno)
		old  []uint32
		want []uint32
	}{
		"Mount, a torn header":   {Mount, full(0x5afec0ff), block(5)},
		"Mount, no header":       {Mount, put(full(), 0, ones, ones, ones, ones), block(5)},
		"Mount, nothing needed":  {Mount, full(), block(9)},
		"Format, the last block": {Format, full(), block(9)},
	} {
		// Sectors 3 and 4 are later elsewhere, and no block is empty.
		more := [][]uint32{block(2, data(3, 5)), block(3, data(4, 5)), block(4, data(7, 5)), block(5, data(8, 5))}
		before := 0
		if x.open(drive(chip(append(more, x.old)...))); name == "Format, the last block" {
			before = 4 * 6
		}
		steps := [][]uint32{x.old, put(slices.Clone(x.old), 3, 0)}
		for n := range 4 {
			steps = append(steps, put(blank(), 0, x.want[:n]...))
		}
		for n, step := range steps {
			c := chip(append(more, x.old)...)
			c.Fuse(before+n+1, 0)
			s, e := x.open(drive(c))
			if s != nil {
				t.Errorf("%s: a store without power", name)
			}
			mustBe(t, name, e, api.ErrOff)
			mustHold(t, name, chip(c.Words()[4*64:]), step)
		}
		c := chip(append(more, x.old)...)
		c.Fuse(before+len(steps)+1, 0)
		_, e := x.open(drive(c))
		mustBe(t, name, e, api.OK)
		mustHold(t, name, chip(c.Words()[4*64:]), x.want)
		mustBe(t, "the change after it", c.Program(0, 0), api.ErrOff)
	}
}

// P8.2: Mount changes nothing if every header is good and a block is empty.
func TestMountLeavesAll(t *testing.T) {
	for empty := range 6 {
		var blocks [][]uint32
		for b := range uint32(6) {
			blocks = append(blocks, block(b, data(3, 5), torn(), data(b, b+1), gone(3, 6), data(400, 7), data(3, 5), gone(b, b)))
		}
		blocks[empty] = block(9)
		c := chip(blocks...)
		words := c.Words()
		c.Fuse(1, ones)
		mustMount(t, c)
		mustHold(t, "Mount", c, words)
	}
}

// P8.2: Mount renews all doubtful blocks, and nothing else.
func TestMountRenewsDoubtful(t *testing.T) {
	good := block(3, data(2, 5), data(1, 4))
	for set := range 1 << 6 {
		var blocks, want [][]uint32
		var wear []int
		for b := range 6 {
			x, y, n := slices.Clone(good), good, 0
			if b == 0 {
				x, y = block(7), block(7)
			}
			if set>>b&1 != 0 {
				x[3] &^= 1 << 31 >> b
				y, n = block(7), 1
				if x[3] == good[3] {
					x[3] = 0
				}
			}
			if set&1 != 0 && n == 1 {
				y = block(3)
			}
			if set == 1<<6-1 {
				y = block(1)
			}
			blocks, want, wear = append(blocks, x), append(want, y), append(wear, n)
		}
		c := chip(blocks...)
		mustMount(t, c)
		mustHold(t, "Mount", c, slices.Concat(want...))
		mustWear(t, "Mount", c, wear...)
	}
}

// P8.2: without an empty block Mount renews one of which no page is needed, if there is one.
func TestMountMakesOneEmpty(t *testing.T) {
	needed := block(3, fill(9, 0, 1, 2)...)
	for name, x := range map[string]struct {
		blocks [][]uint32
		may    []int // the blocks of which one is renewed
	}{
		"none":                   {[][]uint32{needed, block(1, data(3, 1)), block(1, data(4, 1)), block(1, data(5, 1)), block(1, data(6, 1))}, nil},
		"one":                    {[][]uint32{needed, block(1, data(3, 1)), block(1, data(4, 1)), block(1, data(1, 1)), block(1, data(6, 1))}, []int{3}},
		"three":                  {[][]uint32{needed, block(1, data(0, 1)), block(1, data(4, 1)), block(1, data(1, 1)), block(1, data(2, 8))}, []int{1, 3, 4}},
		"torn pages":             {[][]uint32{needed, block(1, data(3, 1)), block(1, torn()), block(1, data(5, 1)), block(1, data(6, 1))}, []int{2}},
		"a torn last page":       {[][]uint32{needed, block(1, data(3, 1)), block(1, free(), free(), free(), free(), free(), free(), free(), torn()), block(1, data(5, 1)), block(1, data(6, 1))}, []int{2}},
		"two equal pages":        {[][]uint32{needed, block(1, data(3, 1)), block(1, data(3, 1)), block(1, data(5, 1)), block(1, data(6, 1))}, []int{1, 2}},
		"equal, and one more":    {[][]uint32{needed, block(1, data(3, 1)), block(1, data(3, 1), data(7, 1)), block(1, data(5, 1)), block(1, data(6, 1))}, []int{1}},
		"a page that is gone":    {[][]uint32{needed, block(1, gone(3, 1)), block(1, data(3, 2)), block(1, data(5, 1)), block(1, data(6, 1))}, []int{1}},
		"gone, and needed":       {[][]uint32{needed, block(1, gone(3, 2)), block(1, data(3, 1)), block(1, data(5, 1)), block(1, data(6, 1))}, []int{2}},
		"gone, and nothing else": {[][]uint32{needed, block(1, gone(3, 2)), block(1, data(4, 1)), block(1, data(5, 1)), block(1, data(6, 1))}, nil},
		"sectors that are none":  {[][]uint32{needed, block(1, data(12, 1)), block(1, data(511, 1)), block(1, gone(13, 1)), block(1, data(12, 2))}, []int{1}},
	} {
		c := chip(x.blocks...)
		words, before := c.Words(), found(t, c)
		s := mustMount(t, c)
		var renewed []int
		for b := range 5 {
			if c.Wear(b) > 0 {
				renewed = append(renewed, b)
				copy(words[64*b:], block(before[b].Count+1))
			}
		}
		if len(renewed) != min(len(x.may), 1) || len(renewed) == 1 && !slices.Contains(x.may, renewed[0]) {
			t.Errorf("%s: renewed %v, not one of %v", name, renewed, x.may)
		}
		mustHold(t, name, c, words)
		for sector := range uint32(12) {
			place, _ := latest.Find(latest.Of(before), sector)
			mustRead(t, name, s, int(sector), place.What.Data)
		}
	}
}

// P8.2: a block that was doubtful serves as the empty one.
func TestMountOfDoubtfulAndUnneeded(t *testing.T) {
	c := chip(block(1, data(3, 2)), block(1, data(3, 1)), put(block(1, data(3, 9)), 3, 0), block(1, torn()), block(1, data(6, 1)))
	s := mustMount(t, c)
	mustWear(t, "Mount", c, 0, 0, 1, 0, 0)
	mustRead(t, "Mount", s, 3, valueOf(3, 2))
}

// P8.2, P8.7: blocks that can't be erased are retired, which is no error.
func TestWornFromTheStart(t *testing.T) {
	for name, open := range calls {
		c := nor.New(6, 0)
		s, e := open(drive(c))
		mustBe(t, name, e, api.OK)
		if s.Retired() != 6 {
			t.Errorf("%s: %d blocks are retired", name, s.Retired())
		}
		mustCount(t, name, s, 0, 0, 0, 0, 0, 0)
		mustHave(t, name, s, make([]value, 18))
		words := c.Words()
		for sector := range 18 {
			mustBe(t, "Write", s.Write(sector, value{1}), api.ErrFull)
			mustBe(t, "Trim", s.Trim(sector), api.ErrFull)
		}
		mustHold(t, name, c, words)
		mustHave(t, name, s, make([]value, 18))
	}
}

// wear erases a block so often that it can be erased only left times more.
func wear(t *testing.T, c *nor.Chip, b, endure, left int) {
	t.Helper()
	for range endure - left {
		mustBe(t, "Erase", c.Erase(b), api.OK)
	}
}

// P8.2, P8.7: some blocks are worn, and are tried again by each Mount.
func TestSomeWorn(t *testing.T) {
	const endure = 50
	c := nor.New(7, endure)
	wear(t, c, 1, endure, 0)
	wear(t, c, 4, endure, 0)
	wear(t, c, 6, endure, 1)
	s, d := mustFormat(t, c)
	mustCount(t, "Format", s, 1, 0, 1, 1, 0, 1, 1)
	for range 3 {
		if s.Retired() != 2 {
			t.Errorf("%d blocks are retired", s.Retired())
		}
		mustBe(t, "Write", s.Write(5, value{9}), api.OK)
		var e api.Errno
		s, e = Mount(d)
		mustBe(t, "Mount", e, api.OK)
		mustRead(t, "Mount", s, 5, value{9})
		mustCount(t, "Mount", s, 1, 0, 1, 1, 0, 1, 1)
	}
	s, e := Format(d)
	mustBe(t, "Format", e, api.OK)
	if s.Retired() != 3 {
		t.Errorf("%d blocks are retired", s.Retired())
	}
	mustCount(t, "Format", s, 2, 0, 2, 2, 0, 2, 0)
}

// P8.2: a block that is worn, and of which nothing is needed, is retired by Mount, and only that one.
func TestMountRetires(t *testing.T) {
	const endure = 2
	c := nor.Of(slices.Concat(block(1, data(3, 2)), block(2, data(4, 2)), block(2, data(5, 2)), block(1, data(3, 1)), block(3, data(6, 1))), endure)
	wear(t, c, 3, endure, 0)
	words := c.Words()
	words[3*64+3] = 0
	s := mustMount(t, c)
	mustHold(t, "Mount", c, words)
	if s.Retired() != 1 {
		t.Errorf("%d blocks are retired", s.Retired())
	}
	mustCount(t, "Mount", s, 1, 2, 2, 0, 3)
	for sector := range 12 {
		mustBe(t, "Write", s.Write(sector, value{uint32(sector)}), api.OK)
	}
	for sector := range 12 {
		mustRead(t, "Write", s, sector, value{uint32(sector)})
	}
}

// P8.3: the latest page that counts gives the value.
func TestReadOfPages(t *testing.T) {
	other := []uint32{8, 4, 1, 2, 3, 4, 0x5afec0de}
	c := chip(
		block(1, data(0, 5), data(1, 9), torn(), data(2, 3), gone(3, 7), data(8, 4), data(11, top)),
		block(2),
		put(block(9, data(0, 99), data(4, 99), data(1, 99)), 3, 0),
		block(3, data(0, 6), data(1, 8), gone(2, 4), data(3, 6), other, data(11, top-1), data(12, 1)),
		block(4, data(0, 4), gone(5, 1), gone(1, 1), data(6, 1), data(6, 3), data(6, 2), data(9, 1), data(511, 9)),
	)
	s := mustMount(t, c)
	want := make([]value, 12)
	for sector, seq := range map[uint32]uint32{0: 6, 1: 9, 6: 3, 8: 4, 9: 1, 11: top} {
		want[sector] = valueOf(sector, seq)
	}
	mustHave(t, "Read", s, want)
	for _, sector := range []int{-1, 12, 13, 511, 512, 1 << 31, 1 << 32, 1<<32 + 1, math.MinInt, math.MaxInt} {
		v, e := s.Read(sector)
		if v != (value{}) {
			t.Errorf("Read(%d) = %v", sector, v)
		}
		mustBe(t, "Read", e, api.ErrRange)
		words := c.Words()
		mustBe(t, "Write", s.Write(sector, value{1}), api.ErrRange)
		mustBe(t, "Trim", s.Trim(sector), api.ErrRange)
		mustHold(t, "out of range", c, words)
	}
}

// P8.3, P8.4: without power every call tells it, and goes on telling it when the power is back.
func TestOff(t *testing.T) {
	calls := []func(*Store) api.Errno{
		func(s *Store) api.Errno { v, e := s.Read(2); return max(e, api.Errno(v[0])) },
		func(s *Store) api.Errno { return s.Write(2, value{9}) },
		func(s *Store) api.Errno { return s.Trim(2) },
	}
	for _, first := range calls {
		c := nor.New(5, endless)
		s, _ := mustFormat(t, c)
		mustBe(t, "Write", s.Write(2, value{7}), api.OK)
		words := c.Words()
		c.Cut()
		mustBe(t, "the first call", first(s), api.ErrOff)
		for range 2 {
			for _, call := range calls {
				mustBe(t, "a later call", call(s), api.ErrOff)
			}
			_, e := s.Read(12)
			mustBe(t, "Read", e, api.ErrRange)
			mustBe(t, "Write", s.Write(-1, value{}), api.ErrRange)
			mustBe(t, "Trim", s.Trim(12), api.ErrRange)
			if s.Sectors() != 12 || s.Retired() != 0 {
				t.Errorf("%d sectors, %d retired", s.Sectors(), s.Retired())
			}
			mustCount(t, "without power", s, 1, 1, 1, 1, 1)
			c.On()
		}
		mustHold(t, "without power", c, words)
		mustRead(t, "Mount", mustMount(t, c), 2, value{7})
	}
}

// P8.3: a store that no call told about the lack of power goes on when the power is back.
func TestOffBetweenCalls(t *testing.T) {
	c := nor.New(5, endless)
	s, _ := mustFormat(t, c)
	for i := range uint32(100) {
		mustBe(t, "Write", s.Write(3, value{i}), api.OK)
		c.Cut()
		mustCount(t, "without power", s, s.Counts()...)
		c.On()
		mustRead(t, "Read", s, 3, value{i})
	}
}

// P8.3, P8.4: the power fails during a change.
func TestOffDuringChange(t *testing.T) {
	for _, trim := range []bool{false, true} {
		c := nor.New(5, endless)
		s, _ := mustFormat(t, c)
		mustBe(t, "Write", s.Write(2, value{7}), api.OK)
		c.Fuse(4, 0x1234)
		if trim {
			mustBe(t, "Trim", s.Trim(2), api.ErrOff)
		} else {
			mustBe(t, "Write", s.Write(2, value{8}), api.ErrOff)
		}
		c.On()
		_, e := s.Read(3)
		mustBe(t, "Read", e, api.ErrOff)
		mustBe(t, "Write", s.Write(3, value{8}), api.ErrOff)
		mustBe(t, "Trim", s.Trim(3), api.ErrOff)
		mustRead(t, "Mount", mustMount(t, c), 2, value{7})
	}
}

// mustBeWhole fails the test unless all blocks were erased as often as their headers tell, and one is empty.
func mustBeWhole(t *testing.T, s *Store, c *nor.Chip) {
	t.Helper()
	empty := false
	for b, x := range found(t, c) {
		if x.Head != page.Good || int(x.Count) != c.Wear(b) {
			t.Fatalf("block %d: header %d, %d, erased %d times", b, x.Head, x.Count, c.Wear(b))
		}
		empty = empty || scan.Empty(x)
	}
	if !empty || s.Retired() != 0 {
		t.Fatalf("an empty block: %v, %d retired", empty, s.Retired())
	}
}

// P8.4, P8.6, P8.7: many changes of sectors in mixed order, and Mounts between them.
func TestManyChanges(t *testing.T) {
	for _, blocks := range []int{5, 6, 7, 10, 17, 64} {
		r := rand.New(rand.NewSource(int64(blocks)))
		c := nor.New(blocks, endless)
		s, d := mustFormat(t, c)
		want := make([]value, s.Sectors())
		// At first every sector gets a value, so that there is no more room than is promised.
		for i := range len(want) + 9000/blocks {
			sector := i
			if i >= len(want) {
				sector = r.Intn(1 + r.Intn(len(want)))
			}
			v, e := change(r, i, s, sector)
			mustBe(t, "a change", e, api.OK)
			want[sector] = v
			mustRead(t, "a change", s, sector, v)
			mustBeWhole(t, s, c)
			for b, n := range s.Counts() {
				if int(n) != c.Wear(b) {
					t.Fatalf("block %d: count %d, erased %d times", b, n, c.Wear(b))
				}
			}
			if i%100 == 99 {
				mustHave(t, "before Mount", s, want)
				words := c.Words()
				s, e = Mount(d)
				mustBe(t, "Mount", e, api.OK)
				mustHold(t, "Mount", c, words)
				mustHave(t, "Mount", s, want)
			}
		}
		mustHave(t, "the end", s, want)
	}
}

// P8.6: a single sector is changed again and again, beside others that stay.
func TestOneSector(t *testing.T) {
	for _, blocks := range []int{5, 6, 9} {
		c := nor.New(blocks, endless)
		s, _ := mustFormat(t, c)
		want := make([]value, s.Sectors())
		for sector := range want {
			want[sector] = value{uint32(sector), 8}
			mustBe(t, "Write", s.Write(sector, want[sector]), api.OK)
		}
		for i := range 1000 {
			sector := i / 500 * (len(want) - 1)
			want[sector] = value{uint32(i), 9}
			mustBe(t, "Write", s.Write(sector, want[sector]), api.OK)
		}
		mustHave(t, "Write", s, want)
	}
}

// P8.4: Trim of sectors without a value, and values of all zeros.
func TestTrims(t *testing.T) {
	s, d := mustFormat(t, nor.New(5, endless))
	for i := range 200 {
		mustBe(t, "Trim", s.Trim(i%12), api.OK)
		mustRead(t, "Trim", s, i%12, value{})
		mustBe(t, "Write", s.Write((i+5)%12, value{0, 0, 0, uint32(i % 2)}), api.OK)
		mustRead(t, "Write", s, (i+5)%12, value{0, 0, 0, uint32(i % 2)})
		mustBe(t, "Trim", s.Trim((i+5)%12), api.OK)
	}
	s, e := Mount(d)
	mustBe(t, "Mount", e, api.OK)
	mustHave(t, "Trim", s, make([]value, 12))
}

// mustBeFull fails the test if a store could have written a page.
func mustBeFull(t *testing.T, s *Store, c *nor.Chip, retired []int) {
	t.Helper()
	if s.Retired() == 0 {
		t.Fatal("full, and no block is retired")
	}
	l := found(t, c)
	for b, x := range l {
		if slices.Contains(retired, b) {
			continue
		}
		if slices.Contains(x.Kinds[:], page.Free) {
			t.Fatalf("full, but block %d has a free page", b)
		}
		if len(latest.Needed(l, b)) == 0 {
			t.Fatalf("full, but block %d has no needed page", b)
		}
	}
}

// doubtful returns which blocks of a chip have no good header now.
func doubtful(t *testing.T, c *nor.Chip) []int {
	t.Helper()
	var l []int
	for b, x := range found(t, c) {
		if x.Head != page.Good {
			l = append(l, b)
		}
	}
	return l
}

// P8.4, P8.7: blocks wear out until the store is full, which changes no sector.
func TestWearingOut(t *testing.T) {
	for _, x := range [][2]int{{5, 1}, {5, 2}, {5, 7}, {6, 4}, {8, 10}, {13, 6}, {20, 2}} {
		r := rand.New(rand.NewSource(int64(x[0] + x[1])))
		c := nor.New(x[0], x[1])
		s, d := mustFormat(t, c)
		want := make([]value, s.Sectors())
		full := 0
		retired, words := doubtful(t, c), c.Words()
		for i := 0; full < 30; i++ {
			sector := r.Intn(len(want))
			v, e := change(r, i, s, sector)
			before, old := retired, words
			retired, words = doubtful(t, c), c.Words()
			if e == api.OK {
				want[sector] = v
			} else {
				mustBe(t, "a change", e, api.ErrFull)
				mustBeFull(t, s, c, retired)
				mustHave(t, "full", s, want)
				full++
			}
			for _, b := range before {
				if !slices.Equal(words[64*b:][:64], old[64*b:][:64]) {
					t.Fatalf("the retired block %d changed", b)
				}
			}
			if s.Retired() != len(retired) {
				t.Fatalf("%d blocks are retired, not %d", s.Retired(), len(retired))
			}
			if i%40 == 39 {
				s, e = Mount(d)
				mustBe(t, "Mount", e, api.OK)
				mustHave(t, "Mount", s, want)
				retired, words = doubtful(t, c), c.Words()
			}
		}
		mustHave(t, "the end", s, want)
	}
}

// P8.4: one or two worn blocks don't make a store full, even if every sector has a value.
func TestRoomWithoutSome(t *testing.T) {
	const endure = 1 << 12
	for _, blocks := range []int{5, 6, 7, 8, 11, 16} {
		for left := 1; left <= 3; left++ {
			r := rand.New(rand.NewSource(int64(blocks*10 + left)))
			c := nor.New(blocks, endure)
			wear(t, c, blocks/2, endure, left)
			wear(t, c, blocks-1, endure, left+1)
			s, _ := mustFormat(t, c)
			want := make([]value, s.Sectors())
			for i := range 600 {
				sector := i
				if i >= len(want) {
					sector = r.Intn(len(want))
				}
				want[sector] = fresh(r, i)
				mustBe(t, "Write", s.Write(sector, want[sector]), api.OK)
			}
			if s.Retired() == 0 {
				t.Errorf("%d blocks: none is retired", blocks)
			}
			mustHave(t, "without some", s, want)
		}
	}
}

// P8.4: where hardly any block is left, sectors that were trimmed take no room for good.
func TestTrimFreesRoom(t *testing.T) {
	const endure = 1 << 12
	c := nor.New(5, endure)
	for b := range 3 {
		wear(t, c, b, endure, 0)
	}
	s, d := mustFormat(t, c)
	want := make([]value, 12)
	for sector := range 9 {
		want[sector] = value{uint32(sector), 7}
		mustBe(t, "Write", s.Write(sector, want[sector]), api.OK)
	}
	// Two blocks have room for changes of eight sectors, but not of nine.
	want[8] = value{}
	mustBe(t, "Trim", s.Trim(8), api.OK)
	for i := range 500 {
		sector := i % 8
		want[sector] = value{uint32(i), 8}
		mustBe(t, "Write", s.Write(sector, want[sector]), api.OK)
		if i%70 == 0 {
			mustHave(t, "trimmed", s, want)
			var e api.Errno
			s, e = Mount(d)
			mustBe(t, "Mount", e, api.OK)
			mustHave(t, "Mount", s, want)
		}
	}
	if s.Retired() != 3 {
		t.Errorf("%d blocks are retired", s.Retired())
	}
}

// P8.4: errors of the driver, which leave all other sectors unchanged.
func TestLocked(t *testing.T) {
	for seed := range int64(30) {
		r := rand.New(rand.NewSource(seed))
		blocks := 5 + r.Intn(3)
		s, d := mustFormat(t, nor.New(blocks, endless))
		want := make([]value, s.Sectors())
		refused := 0
		for i := range 600 {
			mustBe(t, "Lock", d.Lock(r.Intn(blocks), r.Intn(4) == 0), api.OK)
			sector := r.Intn(len(want))
			v, e := change(r, i, s, sector)
			switch e {
			case api.OK:
				want[sector] = v
			case api.ErrLock:
				refused++
				if x, _ := s.Read(sector); x == v {
					want[sector] = v
				}
			default:
				t.Fatalf("a change: error %d", e)
			}
			if i%20 == 0 {
				mustHave(t, "locked", s, want)
			}
		}
		if refused == 0 {
			t.Error("no lock refused a change")
		}
		for b := range blocks {
			mustBe(t, "Lock", d.Lock(b, false), api.OK)
		}
		for i := range 50 {
			mustBe(t, "Write", s.Write(i%len(want), want[i%len(want)]), api.OK)
		}
		mustHave(t, "unlocked", s, want)
		s, e := Mount(d)
		mustBe(t, "Mount", e, api.OK)
		mustHave(t, "Mount", s, want)
	}
}

// P8.4: all blocks are locked.
func TestAllLocked(t *testing.T) {
	c := nor.New(5, endless)
	s, d := mustFormat(t, c)
	mustBe(t, "Write", s.Write(4, value{7}), api.OK)
	for b := range 5 {
		mustBe(t, "Lock", d.Lock(b, true), api.OK)
	}
	words := c.Words()
	for range 30 {
		mustBe(t, "Write", s.Write(4, value{8}), api.ErrLock)
		mustBe(t, "Trim", s.Trim(4), api.ErrLock)
		mustRead(t, "locked", s, 4, value{7})
	}
	mustHold(t, "locked", c, words)
}

// mustPermit fails the test unless the sectors have these values, or the one that a failing call
// would have given, and returns which it is.
func mustPermit(t *testing.T, name string, s *Store, want []value, going int, v value) []value {
	t.Helper()
	want = slices.Clone(want)
	if got, e := s.Read(going); got == v && e == api.OK {
		want[going] = v
	}
	mustHave(t, name, s, want)
	return want
}

// picks are ways in which a change is done only in part.
var picks = []uint32{0, ones, 0x0f0f00ff, 0x5afec0de, 0xaaaa5555, 1, 1 << 31, 0xb10c0001, 0xa501_3f21}

// P8.5: the power fails at each change of many calls.
func TestPowerFailsAnywhere(t *testing.T) {
	for _, pick := range picks {
		for fuse := 1; fuse < 800; fuse += 1 + fuse/100 {
			c := nor.New(5, endless)
			s, _ := mustFormat(t, c)
			r := rand.New(rand.NewSource(int64(pick)))
			want := make([]value, s.Sectors())
			c.Fuse(fuse, pick)
			for i := 0; ; i++ {
				sector := r.Intn(len(want))
				v, e := change(r, i, s, sector)
				if e == api.OK {
					want[sector] = v
					continue
				}
				mustBe(t, "a change", e, api.ErrOff)
				c.On()
				mustPermit(t, "the power failed", mustMount(t, c), want, sector, v)
				break
			}
		}
	}
}

// P8.5: the power fails during Mounts, at each change of each.
func TestPowerFailsDuringMount(t *testing.T) {
	mounts := 0
	for fuse := 300; fuse < 700; fuse++ {
		r := rand.New(rand.NewSource(int64(fuse)))
		c := nor.New(5, endless)
		s, _ := mustFormat(t, c)
		want := make([]value, s.Sectors())
		c.Fuse(fuse, picks[r.Intn(len(picks))])
		sector, v, e := 0, value{}, api.OK
		for i := 0; ; i++ {
			sector = r.Intn(len(want))
			if v, e = change(r, i, s, sector); e != api.OK {
				break
			}
			want[sector] = v
		}
		mustBe(t, "a change", e, api.ErrOff)
		words := c.Words()
		for n := 1; ; n++ {
			c := nor.Of(words, endless)
			c.Fuse(n, picks[n%len(picks)])
			s, e := Mount(drive(c))
			if e == api.OK {
				mustPermit(t, "Mount", s, want, sector, v)
				break
			}
			mounts++
			if s != nil {
				t.Fatal("a store without power")
			}
			mustBe(t, "Mount", e, api.ErrOff)
			// And once more, at any change.
			c.On()
			c.Fuse(1+r.Intn(8), r.Uint32())
			_, e = Mount(drive(c))
			if e != api.OK {
				mustBe(t, "Mount", e, api.ErrOff)
			}
			c.On()
			mustPermit(t, "Mount after Mount", mustMount(t, c), want, sector, v)
		}
	}
	if mounts == 0 {
		t.Error("the power failed in no Mount")
	}
}

// weather makes the power of a chip fail again and again, and returns what sectors have at the end.
type weather struct {
	r    *rand.Rand
	c    *nor.Chip
	s    *Store
	want []value
	long int // the fuses are no longer
	full int
}

// mount mounts until it works.
func (w *weather) mount(t *testing.T) {
	for {
		w.c.On()
		d := drive(w.c)
		if w.r.Intn(2) == 0 {
			w.c.Fuse(1+w.r.Intn(10), w.pick())
		}
		s, e := Mount(d)
		w.s = s
		if e == api.OK {
			w.c.Fuse(0, 0)
			return
		}
		mustBe(t, "Mount", e, api.ErrOff)
	}
}

// pick returns the bits in which a change is done.
func (w *weather) pick() uint32 {
	if w.r.Intn(2) == 0 {
		return picks[w.r.Intn(len(picks))]
	}
	return w.r.Uint32()
}

// step changes sectors until the power fails, and mounts.
func (w *weather) step(t *testing.T) {
	w.c.Fuse(1+w.r.Intn(w.long), w.pick())
	for i := 0; ; i++ {
		sector := w.r.Intn(len(w.want))
		v, e := change(w.r, i, w.s, sector)
		switch e {
		case api.OK:
			w.want[sector] = v
		case api.ErrFull:
			if w.s.Retired() == 0 {
				t.Fatal("full, and no block is retired")
			}
			w.full++
			// No change may be left that could burn the fuse.
			if w.full%20 == 0 {
				w.c.Cut()
			}
		default:
			mustBe(t, "a change", e, api.ErrOff)
			w.mount(t)
			w.want = mustPermit(t, "the power failed", w.s, w.want, sector, v)
			return
		}
	}
}

// P8.5, P8.6: the power fails thousands of times, often in the same calls again, and there is always room.
func TestBadWeather(t *testing.T) {
	for _, x := range [][2]int{{5, 3}, {5, 9}, {5, 30}, {5, 200}, {6, 12}, {6, 60}, {7, 25}, {9, 100}, {16, 300}} {
		w := &weather{r: rand.New(rand.NewSource(int64(x[1]))), c: nor.New(x[0], endless), long: x[1]}
		w.s, _ = mustFormat(t, w.c)
		w.want = make([]value, w.s.Sectors())
		for range 4000 / x[0] {
			w.step(t)
		}
		// All sectors at once have room.
		for round := range 3 {
			for sector := range w.want {
				w.want[sector] = value{uint32(round), uint32(sector), 1, 2}
				mustBe(t, "Write", w.s.Write(sector, w.want[sector]), api.OK)
			}
			mustHave(t, "after all", w.s, w.want)
		}
	}
}

// P8.5, P8.4: the power fails while blocks wear out.
func TestBadWeatherWears(t *testing.T) {
	full := 0
	for seed := range int64(40) {
		r := rand.New(rand.NewSource(seed))
		w := &weather{r: r, c: nor.New(5+r.Intn(4), 1+r.Intn(12)), long: 1 + r.Intn(200)}
		w.s, _ = mustFormat(t, w.c)
		w.want = make([]value, w.s.Sectors())
		for range 40 {
			w.step(t)
		}
		full += w.full
	}
	if full == 0 {
		t.Error("no store was full")
	}
}

// P8.5: the power fails during Format; what is left can be formatted, or mounted, again.
func TestPowerFailsDuringFormat(t *testing.T) {
	c := nor.New(5, endless)
	s, _ := mustFormat(t, c)
	for i := range 100 {
		mustBe(t, "Write", s.Write(i%12, value{uint32(i) + 1}), api.OK)
	}
	words := c.Words()
	for fuse := 1; fuse <= 5*6; fuse++ {
		for _, pick := range picks {
			for name, open := range calls {
				c := nor.Of(words, endless)
				c.Fuse(fuse, pick)
				s, e := Format(drive(c))
				if s != nil {
					t.Fatal("a store without power")
				}
				mustBe(t, "Format", e, api.ErrOff)
				c.On()
				_, e = open(drive(c))
				mustBe(t, name, e, api.OK)
				s, _ = mustFormat(t, c)
				mustHave(t, "Format", s, make([]value, 12))
			}
		}
	}
}

// P8.4, P8.5: sectors whose Seq can't grow are written all the same, wherever the power fails.
func TestLastSeq(t *testing.T) {
	for name, blocks := range map[string][][]uint32{
		"one page":           {block(1, data(3, top)), block(1), block(1), block(1), block(1)},
		"older ones":         {block(1, data(3, top-1)), block(1, data(3, top)), block(1, data(3, top-2)), block(1), block(1)},
		"all of them":        {block(1, fill(top, 0, 1, 2, 3, 4, 5, 6, 7)...), block(1, fill(top, 8, 9, 10, 11)...), block(1, fill(top-1, 0, 1, 2, 3, 4, 5)...), block(1), block(1)},
		"two equal ones":     {block(1, data(3, top)), block(1, data(3, top)), block(1), block(1), block(1)},
		"gone":               {block(1, gone(3, top)), block(1), block(1), block(1), block(1)},
		"gone, older ones":   {block(1, gone(3, top)), block(1, data(3, 7), data(3, top-1)), block(1), block(1), block(1)},
		"one empty block":    {block(1, fill(top, 0, 1, 2, 3, 4, 5, 6, 7)...), block(1, fill(top, 8, 9, 10, 11, 8, 9, 10, 11)...), block(1, fill(1, 0, 1, 2, 3, 4, 5, 6, 7)...), block(1, fill(2, 0, 1, 2, 3, 4, 5, 6, 7)...), block(1)},
		"several in a block": {block(1, data(3, 1), data(3, top), data(3, 2), data(5, 1), data(3, top)), block(1, data(3, top-1)), block(1), block(1), block(1)},
	} {
		for _, trim := range []bool{false, true} {
			want := readAll(mustMount(t, chip(blocks...)))
			v := value{7, 8, 9, 10}
			if trim {
				v = value{}
			}
			for fuse := 1; ; fuse++ {
				c := chip(blocks...)
				s := mustMount(t, c)
				c.Fuse(fuse, picks[fuse%len(picks)])
				e := s.Write(3, v)
				if trim {
					e = or(e, s.Trim(3))
				}
				if e == api.OK {
					want[3] = v
					mustHave(t, name, s, want)
					c.Fuse(0, 0)
					mustGoOn(t, name, s, want)
					break
				}
				mustBe(t, name, e, api.ErrOff)
				c.On()
				mustGoOn(t, name, mustMount(t, c), mustPermit(t, name, mustMount(t, c), want, 3, v))
			}
		}
	}
}

// or returns the first of two errors.
func or(e, f api.Errno) api.Errno {
	if e != api.OK {
		return e
	}
	return f
}

// readAll returns the values of all sectors.
func readAll(s *Store) []value {
	l := make([]value, s.Sectors())
	for sector := range l {
		l[sector], _ = s.Read(sector)
	}
	return l
}

// mustGoOn fails the test unless a store takes values for all its sectors, several times.
func mustGoOn(t *testing.T, name string, s *Store, before []value) {
	t.Helper()
	want := slices.Clone(before)
	mustHave(t, name, s, want)
	for i := range 5 * len(want) {
		sector := i % len(want)
		want[sector] = value{uint32(i), uint32(sector), 5, 6}
		mustBe(t, name, s.Write(sector, want[sector]), api.OK)
	}
	mustHave(t, name, s, want)
}

// P8.6: pages of sectors that the store doesn't have take no room for good.
func TestOtherSectors(t *testing.T) {
	var blocks [][]uint32
	for b := range uint32(4) {
		n := 100 + 8*b
		blocks = append(blocks, block(1, fill(9, n, n+1, n+2, n+3, n+4, n+5, n+6, n+7)...))
	}
	mustGoOn(t, "no sector of the store", mustMount(t, chip(append(blocks, block(1))...)), make([]value, 12))
	want := make([]value, 12)
	for n := range uint32(12) {
		put(blocks[n%4], 4+7*int(n/4), data(n, 5)...)
		want[n] = valueOf(n, 5)
	}
	mustGoOn(t, "beside sectors of the store", mustMount(t, chip(append(blocks, block(1))...)), want)
}

// P8.4: pages of sectors that are gone can be freed even if there is no page to which any could be moved.
func TestRoomOfGone(t *testing.T) {
	var blocks [][]uint32
	for b := range uint32(5) {
		blocks = append(blocks, block(1, fill(9, b, b, b, b, b, b, b, b)...))
	}
	for p := range 8 {
		put(blocks[3], 4+7*p, gone(uint32(p)+4, 4)...)
	}
	want := []value{valueOf(0, 9), valueOf(1, 9), valueOf(2, 9), {}, valueOf(4, 9), {}, {}, {}, {}, {}, {}, {}}
	put(blocks[3], 4, gone(3, 5)...)
	mustGoOn(t, "gone", mustMount(t, chip(blocks...)), want)
}

// P8.4: free pages are found wherever they are.
func TestScatteredRoom(t *testing.T) {
	var blocks [][]uint32
	want := make([]value, 12)
	for b := range uint32(5) {
		blocks = append(blocks, block(1, fill(9, b, b, b, b+5, b, b, b, b)...))
		put(blocks[b], 4+7*int(b), free()...)
		put(blocks[b], 4+7*7, data(b, 99)...)
		want[b] = valueOf(b, 99)
		if b != 3 {
			want[b+5] = valueOf(b+5, 9)
		}
	}
	mustGoOn(t, "scattered", mustMount(t, chip(blocks...)), want)
}

// P8.4: of two pages of one Seq the first one gives the value, and goes on giving it.
func TestEqualSeqs(t *testing.T) {
	for _, seq := range []uint32{5, top} {
		other := []uint32{4, seq, 9, 9, 9, 9, 0x5afec0de}
		s := mustMount(t, chip(block(1, data(4, seq), data(5, 1)), block(1, other, data(4, 1)), block(1), block(1), block(1)))
		for i := range 200 {
			mustRead(t, "equal", s, 4, valueOf(4, seq))
			mustBe(t, "Write", s.Write(5+i%7, value{uint32(i)}), api.OK)
		}
		mustRead(t, "equal", s, 4, valueOf(4, seq))
		mustBe(t, "Write", s.Write(4, value{1}), api.OK)
		mustRead(t, "Write", s, 4, value{1})
	}
}

// P8.4: a page whose Seq can't be beaten stays where it is as long as another copy has the same one.
func TestEqualSeqsStay(t *testing.T) {
	other := []uint32{4, top, 9, 9, 9, 9, 0x5afec0de}
	c := chip(
		block(1, data(4, top), torn(), torn(), torn(), torn(), torn(), torn(), torn()),
		block(1, append(fill(1, 0, 1, 2, 3, 5, 6, 7), other)...),
		block(1, fill(1, 9, 10, 11)...),
		block(1, data(8, 1)),
		block(1),
	)
	s := mustMount(t, c)
	want := readAll(s)
	if want[4] != valueOf(4, top) {
		t.Fatalf("Read(4) = %v", want[4])
	}
	for i := range 60 {
		sector := []int{0, 3, 8, 11}[i%4]
		want[sector] = value{uint32(i), 6}
		mustBe(t, "Write", s.Write(sector, want[sector]), api.OK)
		mustHave(t, "equal", s, want)
	}
	mustGoOn(t, "equal", s, want)
}

// P8.2, P8.4: a doubtful block doesn't come back, whatever is in it.
func TestDoubtfulPagesDontCount(t *testing.T) {
	c := chip(block(1, data(3, 1)), put(block(1, data(3, 8), data(4, 9)), 3, 0x5afec0df), block(1, gone(5, 2)), block(1), block(1))
	s := mustMount(t, c)
	mustRead(t, "Mount", s, 3, valueOf(3, 1))
	mustRead(t, "Mount", s, 4, value{})
}

// P8.7: the counts that are handed out are the caller's.
func TestCountsAreACopy(t *testing.T) {
	s, _ := mustFormat(t, nor.New(5, endless))
	l := s.Counts()
	clear(l)
	mustCount(t, "a changed copy", s, 1, 1, 1, 1, 1)
	mustBe(t, "Write", s.Write(0, value{1}), api.OK)
	mustCount(t, "Write", s, 1, 1, 1, 1, 1)
}

// P8.7: the counts are those of the headers, wherever the power failed.
func TestCountsAfterPowerFailure(t *testing.T) {
	none := 0
	for fuse := 1; fuse < 400; fuse++ {
		c := nor.New(5, endless)
		s, _ := mustFormat(t, c)
		c.Fuse(fuse, picks[fuse%len(picks)])
		for i := 0; s.Write(i%12, value{uint32(i)}) == api.OK; i++ {
		}
		if len(s.Counts()) != 5 {
			t.Fatalf("fuse %d: %d counts without power", fuse, len(s.Counts()))
		}
		c.On()
		var want []uint32
		for _, x := range found(t, c) {
			want = append(want, x.Count)
			if x.Count == 0 {
				none++
			}
		}
		mustCount(t, "the power is back", s, want...)
		_, e := s.Read(0)
		mustBe(t, "Read", e, api.ErrOff)
	}
	if none == 0 {
		t.Error("no power failure left a block without a header")
	}
}

// P8.7: a retired block has no count.
func TestCountsOfRetired(t *testing.T) {
	c := nor.New(5, 2)
	s, d := mustFormat(t, c)
	for i := 0; s.Retired() == 0; i++ {
		mustCount(t, "Write", s, s.Counts()...)
		for b, n := range s.Counts() {
			if int(n) != c.Wear(b) {
				t.Fatalf("block %d: count %d, erased %d times", b, n, c.Wear(b))
			}
		}
		mustBe(t, "Write", s.Write(i%12, value{uint32(i)}), api.OK)
	}
	for range 2 {
		many := 0
		for b, n := range s.Counts() {
			if n == 0 {
				many++
			} else if int(n) != c.Wear(b) {
				t.Errorf("block %d: count %d, erased %d times", b, n, c.Wear(b))
			}
		}
		if many != s.Retired() {
			t.Errorf("%d blocks have no count, %d are retired", many, s.Retired())
		}
		var e api.Errno
		s, e = Mount(d)
		mustBe(t, "Mount", e, api.OK)
	}
}

// R4: the same calls give the same words, and stores on other flashes change nothing.
func TestAlike(t *testing.T) {
	run := func(other bool) []uint32 {
		c, r := nor.New(6, 20), rand.New(rand.NewSource(3))
		s, _ := mustFormat(t, c)
		x, _ := mustFormat(t, nor.New(9, endless))
		for i := range 700 {
			change(r, i, s, r.Intn(18))
			if other {
				mustBe(t, "Write", x.Write(i%36, value{ones}), api.OK)
			}
		}
		return c.Words()
	}
	want := run(false)
	for range 3 {
		if !slices.Equal(run(true), want) {
			t.Fatal("the same calls, other words")
		}
	}
}

// R1: a flash that is changed between calls, or that shows something else, ends no call in a panic.
func TestChangedBetweenCalls(t *testing.T) {
	for seed := range int64(200) {
		r := rand.New(rand.NewSource(seed))
		c := nor.New(5, endless)
		f := cfi.New(c)
		d := driver.New(f, 5)
		s, e := Format(d)
		mustBe(t, "Format", e, api.OK)
		for i := range 60 {
			switch r.Intn(4) {
			case 0:
				f.Write(r.Intn(320), r.Uint32()&0xf0)
			case 1:
				c.Program(r.Intn(320), r.Uint32())
			case 2:
				c.Erase(r.Intn(5))
			case 3:
				b, p := r.Intn(5), r.Intn(8)
				d.Program(page.At(b, p), page.Words(page.Page{Sector: uint32(r.Intn(512)), Seq: 1 + r.Uint32()>>1})...)
			}
			change(r, i, s, r.Intn(12))
			s.Read(r.Intn(12))
			s.Counts()
			if r.Intn(9) == 0 {
				if m, e := Mount(d); e == api.OK {
					s = m
				}
			}
		}
	}
}
