package nor

import (
	"math"
	"math/rand"
	"slices"
	"testing"

	"dioptra/api"
)

const ones = 0xffffffff

// repeated returns so many words of the value w.
func repeated(w uint32, many int) []uint32 {
	return slices.Repeat([]uint32{w}, many)
}

// counted returns so many words that all differ.
func counted(many int) []uint32 {
	l := make([]uint32, many)
	for i := range l {
		l[i] = 0x12345678 + uint32(i)*0x01010101
	}
	return l
}

// mustBe fails the test unless a call returned this error.
func mustBe(t *testing.T, name string, got, want api.Errno) {
	t.Helper()
	if got != want {
		t.Fatalf("%s: error %d, want %d", name, got, want)
	}
}

// mustHold fails the test unless the chip has these words.
func mustHold(t *testing.T, name string, c *Chip, want []uint32) {
	t.Helper()
	got := c.Words()
	if len(got) != len(want) {
		t.Fatalf("%s: %d words, want %d", name, len(got), len(want))
	}
	for at, w := range want {
		if got[at] != w {
			t.Fatalf("%s: word %d is %#x, want %#x", name, at, got[at], w)
		}
	}
}

// mustBeNew fails the test unless no call has changed the chip since it holds words.
func mustBeNew(t *testing.T, name string, c *Chip, words []uint32) {
	t.Helper()
	if c == nil {
		t.Fatalf("%s: nil", name)
	}
	if c.Blocks() != len(words)/api.Block || !c.Up() {
		t.Errorf("%s: %d blocks, up: %v", name, c.Blocks(), c.Up())
	}
	for block := range c.Blocks() {
		if c.Wear(block) != 0 {
			t.Errorf("%s: block %d was erased %d times", name, block, c.Wear(block))
		}
	}
	mustHold(t, name, c, words)
}

// P2.1
func TestNew(t *testing.T) {
	for _, blocks := range []int{1, 2, 5, 63, 64} {
		for _, endure := range []int{0, 1, 100000, math.MaxInt} {
			mustBeNew(t, "New", New(blocks, endure), repeated(ones, blocks*64))
		}
	}
}

// P2.1
func TestNewRefuses(t *testing.T) {
	for _, c := range []struct{ blocks, endure int }{
		{0, 1}, {-1, 1}, {65, 1}, {128, 1}, {1, -1}, {64, -1}, {0, -1}, {65, -1},
		{math.MinInt, 1}, {math.MaxInt, 1}, {1, math.MinInt},
		{math.MaxInt/64 + 2, 1}, {math.MaxInt/32 + 2, 1}, {1 << 32, 1}, {1<<32 + 1, 1}, {1<<58 + 1, 1},
	} {
		if New(c.blocks, c.endure) != nil {
			t.Errorf("New(%d, %d) is a chip", c.blocks, c.endure)
		}
	}
}

// P2.1
func TestOf(t *testing.T) {
	for _, blocks := range []int{1, 2, 63, 64} {
		for _, endure := range []int{0, 1, math.MaxInt} {
			mustBeNew(t, "Of", Of(counted(blocks*64), endure), counted(blocks*64))
		}
	}
}

// P2.1
func TestOfRefuses(t *testing.T) {
	for _, c := range []struct{ words, endure int }{
		{0, 1}, {1, 1}, {63, 1}, {65, 1}, {127, 1}, {96, 1},
		{4095, 1}, {4097, 1}, {4160, 1}, {8192, 1}, {64, -1}, {4096, -1}, {64, math.MinInt}, {63, -1},
	} {
		if Of(make([]uint32, c.words), c.endure) != nil {
			t.Errorf("Of(%d words, %d) is a chip", c.words, c.endure)
		}
	}
	if Of(nil, 1) != nil {
		t.Error("Of(nil, 1) is a chip")
	}
}

// P2.1, R6
func TestOfKeepsAndLeavesTheWords(t *testing.T) {
	words := counted(128)
	c := Of(words, 1)
	mustBe(t, "Program", c.Program(3, 0), api.OK)
	mustBe(t, "Erase", c.Erase(1), api.OK)
	if !slices.Equal(words, counted(128)) {
		t.Error("a change of the chip changed the words that it was made of")
	}
	words[0] = 99
	if w, _ := c.Read(0); w != 0x12345678 {
		t.Errorf("a change of the words that the chip was made of changed it: %#x", w)
	}
}

// P2.1: no fuse is there at first.
func TestNoFuseAtFirst(t *testing.T) {
	for _, c := range []*Chip{New(1, 300), Of(counted(64), 300)} {
		for range 200 {
			mustBe(t, "Program", c.Program(0, 5), api.OK)
			mustBe(t, "Erase", c.Erase(0), api.OK)
		}
	}
}

// P2.2
func TestRead(t *testing.T) {
	c := Of(counted(128), 1)
	for at, want := range counted(128) {
		w, e := c.Read(at)
		if w != want || e != api.OK {
			t.Errorf("Read(%d) = %#x, %d, want %#x", at, w, e, want)
		}
	}
}

// P2.2
func TestProgram(t *testing.T) {
	c := New(2, 1)
	for _, s := range []struct {
		at      int
		v, want uint32
	}{
		{0, 0xf0, 0xf0},
		{0, 0x3c, 0x30},
		{0, ones, 0x30},
		{64, 0xff00ff00, 0xff00ff00},
		{64, 0x0ff00ff0, 0x0f000f00},
		{127, 0x80000001, 0x80000001},
		{127, 0x7fffffff, 1},
		{127, 0, 0},
		{127, ones, 0},
	} {
		mustBe(t, "Program", c.Program(s.at, s.v), api.OK)
		if w, e := c.Read(s.at); w != s.want || e != api.OK {
			t.Errorf("Program(%d, %#x): %#x, %d, want %#x", s.at, s.v, w, e, s.want)
		}
	}
}

// P2.2
func TestErase(t *testing.T) {
	c := Of(counted(192), 2)
	want := counted(192)
	copy(want[64:128], repeated(ones, 64))
	mustBe(t, "Erase", c.Erase(1), api.OK)
	mustHold(t, "after an erasure", c, want)
	mustBe(t, "Erase once more", c.Erase(1), api.OK)
	mustHold(t, "after the second erasure", c, want)
	for block, wear := range []int{0, 2, 0} {
		if c.Wear(block) != wear {
			t.Errorf("Wear(%d) = %d, want %d", block, c.Wear(block), wear)
		}
	}
}

// P2.2
func TestEraseWorn(t *testing.T) {
	c := New(2, 3)
	for range 3 {
		mustBe(t, "Erase", c.Erase(0), api.OK)
	}
	mustBe(t, "Program", c.Program(7, 5), api.OK)
	want := repeated(ones, 128)
	want[7] = 5
	for range 2 {
		mustBe(t, "Erase of a worn block", c.Erase(0), api.ErrWorn)
		mustHold(t, "a worn block", c, want)
	}
	if c.Wear(0) != 3 || c.Wear(1) != 0 {
		t.Errorf("Wear: %d, %d, want 3, 0", c.Wear(0), c.Wear(1))
	}
	mustBe(t, "Erase of another block", c.Erase(1), api.OK)
	mustBe(t, "Program of a worn block", c.Program(7, 4), api.OK)
	mustBe(t, "Erase of a block that endures nothing", New(1, 0).Erase(0), api.ErrWorn)
	mustBe(t, "Erase of a block made of words that endures nothing", Of(counted(64), 0).Erase(0), api.ErrWorn)
}

// P2.2
func TestNoSuchWordOrBlock(t *testing.T) {
	for _, blocks := range []int{1, 2, 64} {
		c := Of(counted(blocks*64), 1)
		for _, at := range []int{-1, -64, blocks * 64, blocks*64 + 1, math.MinInt, math.MaxInt} {
			if w, e := c.Read(at); w != 0 || e != api.ErrOut {
				t.Errorf("Read(%d) of %d blocks = %#x, %d", at, blocks, w, e)
			}
			mustBe(t, "Program", c.Program(at, 0), api.ErrOut)
		}
		for _, block := range []int{-1, blocks, blocks + 1, blocks * 64, math.MinInt, math.MaxInt, 1 << 58} {
			mustBe(t, "Erase", c.Erase(block), api.ErrOut)
		}
		mustBeNew(t, "after refused calls", c, counted(blocks*64))
	}
}

// P2.2, R2: without power nothing else matters.
func TestPowerOff(t *testing.T) {
	c := Of(counted(128), 1)
	mustBe(t, "Erase", c.Erase(1), api.OK)
	before := c.Words()
	c.Cut()
	for _, at := range []int{0, 127, 128, -1} {
		if w, e := c.Read(at); w != 0 || e != api.ErrOff {
			t.Errorf("Read(%d) = %#x, %d", at, w, e)
		}
		mustBe(t, "Program", c.Program(at, 0), api.ErrOff)
	}
	for _, block := range []int{0, 1, 2, -1} {
		mustBe(t, "Erase", c.Erase(block), api.ErrOff)
	}
	mustHold(t, "without power", c, before)
	if c.Wear(0) != 0 || c.Wear(1) != 1 {
		t.Errorf("Wear: %d, %d, want 0, 1", c.Wear(0), c.Wear(1))
	}
}

// P2.2, P2.3, P2.4
func TestNilAndZeroChip(t *testing.T) {
	for name, c := range map[string]*Chip{"nil": nil, "zero": {}} {
		for _, at := range []int{0, -1, math.MaxInt} {
			for range 2 {
				if w, e := c.Read(at); w != 0 || e != api.ErrNil {
					t.Errorf("%s: Read(%d) = %#x, %d", name, at, w, e)
				}
				mustBe(t, name+": Program", c.Program(at, 0), api.ErrNil)
				mustBe(t, name+": Erase", c.Erase(at), api.ErrNil)
				if c.Blocks() != 0 || c.Up() || c.Wear(at) != 0 || len(c.Words()) != 0 {
					t.Errorf("%s: %d blocks, up: %v, wear %d, %d words", name, c.Blocks(), c.Up(), c.Wear(at), len(c.Words()))
				}
				c.Fuse(1, ones)
				c.Cut()
				c.On()
			}
		}
	}
	zero := &Chip{}
	for _, do := range []func(){func() { zero.Fuse(3, 7) }, zero.Cut, zero.On} {
		do()
		if zero.left != 0 || zero.pick != 0 || zero.up {
			t.Error("a zero chip has a fuse or power")
		}
	}
}

// P2.3
func TestFuseDuringProgram(t *testing.T) {
	for _, s := range []struct{ was, v, pick, want uint32 }{
		{ones, 0, 0xff, 0xffffff00},
		{ones, 0, 0, ones},
		{ones, 0, ones, 0},
		{0xf0f0f0f0, 0x0ff00ff0, 0xffff0000, 0x00f0f0f0},
		{0x30, ones, ones, 0x30},
		{0, ones, 0x55555555, 0},
	} {
		words := counted(64)
		words[9] = s.was
		c := Of(words, 1)
		c.Fuse(1, s.pick)
		mustBe(t, "Program in part", c.Program(9, s.v), api.ErrOff)
		if c.Up() {
			t.Error("the power is on after it failed")
		}
		words[9] = s.want
		mustHold(t, "Program in part", c, words)
		c.On()
		mustHold(t, "with power again", c, words)
		if c.Wear(0) != 0 {
			t.Errorf("Wear after Program: %d", c.Wear(0))
		}
	}
}

// P2.3
func TestFuseDuringErase(t *testing.T) {
	for _, pick := range []uint32{0, 1, 0x80000000, 0xff, 0x12345678, 0xf0000001, ones} {
		c := Of(counted(192), 1)
		want := counted(192)
		for i := range 64 {
			for bit := range 32 {
				if pick>>bit&1 == 1 {
					want[64+i] |= 1 << ((bit + i) % 32)
				}
			}
		}
		c.Fuse(1, pick)
		mustBe(t, "Erase in part", c.Erase(1), api.ErrOff)
		if c.Up() {
			t.Error("the power is on after it failed")
		}
		mustHold(t, "Erase in part", c, want)
		if c.Wear(0) != 0 || c.Wear(1) != 1 || c.Wear(2) != 0 {
			t.Errorf("Wear: %d, %d, %d, want 0, 1, 0", c.Wear(0), c.Wear(1), c.Wear(2))
		}
		c.On()
		mustBe(t, "Erase of a block that was erased in part", c.Erase(1), api.ErrWorn)
		mustHold(t, "with power again", c, want)
	}
}

// P2.3: the n-th change fails, and all before it are done.
func TestFuseCounts(t *testing.T) {
	for n := 1; n <= 20; n++ {
		c := New(1, 100)
		c.Fuse(n, 0)
		for i := 1; i < n; i++ {
			if i%3 == 0 {
				mustBe(t, "Erase before the n-th change", c.Erase(0), api.OK)
			} else {
				mustBe(t, "Program before the n-th change", c.Program(i, uint32(i)), api.OK)
			}
			if w, _ := c.Read(i); i%3 != 0 && w != uint32(i) {
				t.Errorf("n is %d: word %d is %#x", n, i, w)
			}
		}
		before := c.Words()
		mustBe(t, "the n-th change", c.Program(63, 0), api.ErrOff)
		mustHold(t, "the n-th change, with nothing picked", c, before)
	}
}

// P2.3: a program that changes no bit counts, too; a call that is refused, or that reads, does not.
func TestFuseCountsWhatReturnsOK(t *testing.T) {
	c := New(2, 1)
	mustBe(t, "Erase", c.Erase(0), api.OK)
	c.Fuse(3, 1)
	for range 5 {
		c.Program(-1, 0)
		c.Program(128, 0)
		c.Erase(-1)
		c.Erase(2)
		c.Read(0)
		c.Read(-1)
		mustBe(t, "Erase of a worn block", c.Erase(0), api.ErrWorn)
	}
	mustBe(t, "Program of all bits", c.Program(0, ones), api.OK)
	mustBe(t, "Erase", c.Erase(1), api.OK)
	mustBe(t, "Erase of a worn block, before the last change", c.Erase(0), api.ErrWorn)
	mustBe(t, "Program where there is no word, before the last change", c.Program(128, 0), api.ErrOut)
	mustBe(t, "the third change", c.Program(0, 0), api.ErrOff)
	if w := c.Words()[0]; w != 0xfffffffe {
		t.Errorf("the third change: %#x", w)
	}
	c.On()
	c.Fuse(1, 0)
	mustBe(t, "Program of all bits, with a fuse", c.Program(0, ones), api.ErrOff)
}

// P2.3: the power that failed does not fail again.
func TestFuseFailsOnce(t *testing.T) {
	c := New(1, 10)
	c.Fuse(1, 0)
	mustBe(t, "the change", c.Program(0, 0), api.ErrOff)
	mustBe(t, "without power", c.Program(0, 0), api.ErrOff)
	c.On()
	for range 5 {
		mustBe(t, "Program", c.Program(0, 0), api.OK)
		mustBe(t, "Erase", c.Erase(0), api.OK)
	}
}

// P2.3
func TestFuseBelowOneIsNone(t *testing.T) {
	for _, n := range []int{0, -1, -2, math.MinInt} {
		c := New(1, 100)
		c.Fuse(n, 0)
		for range 20 {
			mustBe(t, "Program without a fuse", c.Program(0, 0), api.OK)
		}
		c.Fuse(2, 0)
		c.Fuse(n, 0)
		for range 20 {
			mustBe(t, "Erase with the fuse taken away", c.Erase(0), api.OK)
		}
	}
}

// P2.3
func TestFuseReplaces(t *testing.T) {
	c := New(1, 100)
	c.Fuse(2, 0xff)
	mustBe(t, "Program", c.Program(0, 0x0fffffff), api.OK)
	c.Fuse(3, 0xf0)
	mustBe(t, "Program", c.Program(0, 0x0fffffff), api.OK)
	mustBe(t, "Program", c.Program(0, 0x0fffffff), api.OK)
	mustBe(t, "the third change", c.Program(0, 0), api.ErrOff)
	if w := c.Words()[0]; w != 0x0fffff0f {
		t.Errorf("the third change: %#x", w)
	}
	c.On()
	c.Fuse(math.MaxInt, 0)
	mustBe(t, "Program with a long fuse", c.Program(0, 0), api.OK)
	c.Fuse(1, ones)
	mustBe(t, "Program with a short fuse", c.Program(1, 0), api.ErrOff)
}

// P2.3
func TestCutAndOn(t *testing.T) {
	c := Of(counted(64), 2)
	mustBe(t, "Erase", c.Erase(0), api.OK)
	mustBe(t, "Program", c.Program(5, 7), api.OK)
	want := repeated(ones, 64)
	want[5] = 7
	for _, s := range []struct {
		do func()
		up bool
	}{{c.On, true}, {c.Cut, false}, {c.Cut, false}, {c.On, true}, {c.On, true}, {c.Cut, false}, {c.On, true}} {
		s.do()
		if c.Up() != s.up {
			t.Errorf("up: %v, want %v", c.Up(), s.up)
		}
		mustHold(t, "Cut and On", c, want)
		if c.Wear(0) != 1 {
			t.Errorf("Wear: %d, want 1", c.Wear(0))
		}
	}
	if w, e := c.Read(5); w != 7 || e != api.OK {
		t.Errorf("Read(5) = %#x, %d", w, e)
	}
}

// P2.3: On takes the fuse away, whether the power was on or off, and Cut does not.
func TestOnTakesTheFuseAway(t *testing.T) {
	for name, before := range map[string]func(c *Chip){
		"on":                        func(c *Chip) { c.Fuse(1, 0) },
		"off":                       func(c *Chip) { c.Fuse(1, 0); c.Cut() },
		"off before the fuse":       func(c *Chip) { c.Cut(); c.Fuse(1, 0) },
		"off and tried":             func(c *Chip) { c.Fuse(1, 0); c.Cut(); c.Program(0, 0); c.Erase(0) },
		"on, after some changes":    func(c *Chip) { c.Fuse(3, 0); c.Program(0, 0); c.Program(0, 0) },
		"off because of the fuse":   func(c *Chip) { c.Fuse(1, 0); c.Program(0, 0) },
		"a new one without power":   func(c *Chip) { c.Fuse(1, 0); c.Program(0, 0); c.Fuse(1, 0) },
		"off, with a longer fuse":   func(c *Chip) { c.Fuse(5, 0); c.Cut() },
		"on, with the fuse renewed": func(c *Chip) { c.Fuse(5, 0); c.Fuse(1, 0) },
	} {
		c := New(1, 100)
		before(c)
		c.On()
		for range 20 {
			mustBe(t, name, c.Program(0, 0), api.OK)
			mustBe(t, name, c.Erase(0), api.OK)
		}
	}
}

// P2.4
func TestWear(t *testing.T) {
	c := New(3, 10)
	for range 4 {
		mustBe(t, "Erase", c.Erase(2), api.OK)
	}
	mustBe(t, "Erase", c.Erase(0), api.OK)
	for _, up := range []bool{true, false} {
		if !up {
			c.Cut()
		}
		for block, wear := range []int{1, 0, 4} {
			if c.Wear(block) != wear {
				t.Errorf("up: %v: Wear(%d) = %d, want %d", up, block, c.Wear(block), wear)
			}
		}
		for _, block := range []int{-1, -3, 3, 4, 64, math.MinInt, math.MaxInt} {
			if c.Wear(block) != 0 {
				t.Errorf("up: %v: Wear(%d) = %d", up, block, c.Wear(block))
			}
		}
	}
}

// P2.4
func TestWordsIsACopy(t *testing.T) {
	c := Of(counted(128), 1)
	words := c.Words()
	words[0] = 99
	mustHold(t, "after a change of the copy", c, counted(128))
	words = c.Words()
	mustBe(t, "Program", c.Program(0, 0), api.OK)
	mustBe(t, "Erase", c.Erase(1), api.OK)
	if !slices.Equal(words, counted(128)) {
		t.Error("a change of the chip changed a copy of its words")
	}
	before := c.Words()
	c.Cut()
	mustHold(t, "without power", c, before)
	if c.Blocks() != 2 {
		t.Errorf("Blocks without power: %d", c.Blocks())
	}
}

// P2.5
func TestOnlyTheNamedChanges(t *testing.T) {
	for at := range 192 {
		for _, fuse := range []int{0, 1} {
			c, want := Of(counted(192), 1), counted(192)
			c.Fuse(fuse, 0x0f0f0f0f)
			c.Program(at, 0x33333333)
			if got := c.Words()[at]; got&^want[at] != 0 {
				t.Errorf("Program(%d) set bits: %#x, from %#x", at, got, want[at])
			}
			want[at] = c.Words()[at]
			mustHold(t, "Program", c, want)
		}
	}
	for block := range 3 {
		for _, fuse := range []int{0, 1} {
			c, want := Of(counted(192), 1), counted(192)
			c.Fuse(fuse, 0x0f0f0f0f)
			c.Erase(block)
			for i, w := range c.Words()[block*64:][:64] {
				if want[block*64+i]&^w != 0 {
					t.Errorf("Erase(%d) cleared bits of word %d: %#x", block, i, w)
				}
				want[block*64+i] = w
			}
			mustHold(t, "Erase", c, want)
		}
	}
}

// cells takes the chapter's words cell by cell: a slow chip to hold the other one against.
type cells struct {
	bit    [][32]bool
	erased map[int]int
	endure int
	off    bool
	fused  bool
	togo   int
	pick   uint32
}

// slowChip returns the cells of a chip that contains words.
func slowChip(words []uint32, endure int) *cells {
	s := &cells{erased: map[int]int{}, endure: endure}
	for _, w := range words {
		var b [32]bool
		for i := range b {
			b[i] = w>>i&1 == 1
		}
		s.bit = append(s.bit, b)
	}
	return s
}

// fails counts a change, and reports whether the power fails in it.
func (s *cells) fails() bool {
	if !s.fused {
		return false
	}
	s.togo--
	if s.togo > 0 {
		return false
	}
	s.off, s.fused = true, false
	return true
}

func (s *cells) program(at int, v uint32) api.Errno {
	if s.off {
		return api.ErrOff
	}
	if at < 0 || at >= len(s.bit) {
		return api.ErrOut
	}
	part := s.fails()
	for i := range 32 {
		if v>>i&1 == 0 && (!part || s.pick>>i&1 == 1) {
			s.bit[at][i] = false
		}
	}
	if part {
		return api.ErrOff
	}
	return api.OK
}

func (s *cells) erase(block int) api.Errno {
	if s.off {
		return api.ErrOff
	}
	if block < 0 || block >= len(s.bit)/64 {
		return api.ErrOut
	}
	if s.erased[block] >= s.endure {
		return api.ErrWorn
	}
	s.erased[block]++
	part := s.fails()
	for i := range 64 {
		for b := range 32 {
			if !part || s.pick>>b&1 == 1 {
				s.bit[block*64+i][(b+i)%32] = true
			}
		}
	}
	if part {
		return api.ErrOff
	}
	return api.OK
}

// words returns what the cells hold.
func (s *cells) words() []uint32 {
	l := make([]uint32, len(s.bit))
	for at, b := range s.bit {
		for i, set := range b {
			if set {
				l[at] |= 1 << i
			}
		}
	}
	return l
}

// both does one chosen call on the chip and on the slow cells, and compares the errors.
func both(t *testing.T, r *rand.Rand, c *Chip, s *cells) {
	t.Helper()
	at, block := r.Intn(len(s.bit)+2)-1, r.Intn(len(s.bit)/64+2)-1
	v, n := r.Uint32()|r.Uint32(), r.Intn(9)-1
	switch r.Intn(12) {
	case 0:
		c.Cut()
		s.off = true
	case 1, 2:
		c.On()
		s.off, s.fused = false, false
	case 3:
		c.Fuse(n, v)
		s.fused, s.togo, s.pick = n >= 1, n, v
	case 4, 5:
		mustBe(t, "Erase", c.Erase(block), s.erase(block))
	default:
		mustBe(t, "Program", c.Program(at, v), s.program(at, v))
	}
}

// P2.1 to P2.5, in mixed order.
func TestCellByCell(t *testing.T) {
	for seed := range int64(30) {
		r := rand.New(rand.NewSource(seed))
		start := counted(64 * (1 + r.Intn(3)))
		endure := r.Intn(20)
		c, s := Of(start, endure), slowChip(start, endure)
		for range 300 {
			both(t, r, c, s)
			mustHold(t, "mixed calls", c, s.words())
			if c.Up() == s.off {
				t.Fatalf("up: %v", c.Up())
			}
			for block := range len(start) / 64 {
				if c.Wear(block) != s.erased[block] {
					t.Fatalf("Wear(%d) = %d, want %d", block, c.Wear(block), s.erased[block])
				}
			}
		}
	}
}
