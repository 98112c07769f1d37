package driver

import (
	"math"
	"math/rand"
	"slices"
	"testing"

	"dioptra/api"
	"dioptra/cfi"
	"dioptra/nor"
)

// ones is a word all of whose bits are set.
const ones = ^uint32(0)

// around blocks come back to block 0: their address wraps around an int.
const around = (math.MaxInt/api.Block + 1) * 2

// counted returns so many words that all differ.
func counted(many int) []uint32 {
	l := make([]uint32, many)
	for i := range l {
		l[i] = 0x12345678 + uint32(i)*0x01010101
	}
	return l
}

// made returns a driver of a flash of so many blocks with words that all differ, and what is below it.
func made(t *testing.T, blocks, endure int) (*Driver, *cfi.Flash, *nor.Chip) {
	t.Helper()
	c := nor.Of(counted(blocks*api.Block), endure)
	f := cfi.New(c)
	d := New(f, blocks)
	if d == nil {
		t.Fatalf("New of %d blocks is nil", blocks)
	}
	return d, f, c
}

// mustBe fails the test unless a call returned this error.
func mustBe(t *testing.T, name string, got, want api.Errno) {
	t.Helper()
	if got != want {
		t.Fatalf("%s: error %d, want %d", name, got, want)
	}
}

// mustTick fails the test unless the driver counted so many ticks.
func mustTick(t *testing.T, name string, d *Driver, want int) {
	t.Helper()
	if d.Ticks() != want {
		t.Fatalf("%s: %d ticks, want %d", name, d.Ticks(), want)
	}
}

// mustShow fails the test unless the flash has this status.
func mustShow(t *testing.T, name string, f *cfi.Flash, want uint32) {
	t.Helper()
	if f.Status() != want {
		t.Fatalf("%s: status %#x, want %#x", name, f.Status(), want)
	}
}

// mustHold fails the test unless the chip has these words.
func mustHold(t *testing.T, name string, c *nor.Chip, want []uint32) {
	t.Helper()
	if !slices.Equal(c.Words(), want) {
		t.Fatalf("%s: the words of the chip are %x, want %x", name, c.Words(), want)
	}
}

// mustRead fails the test unless Read returns these words.
func mustRead(t *testing.T, name string, d *Driver, at int, want ...uint32) {
	t.Helper()
	if got, e := d.Read(at, len(want)); e != api.OK || !slices.Equal(got, want) {
		t.Fatalf("%s: Read(%d, %d) = %x, %d, want %x", name, at, len(want), got, e, want)
	}
}

// mustNotRead fails the test unless Read returns this error, and nothing else.
func mustNotRead(t *testing.T, name string, d *Driver, at, many int, want api.Errno) {
	t.Helper()
	if got, e := d.Read(at, many); e != want || len(got) != 0 {
		t.Fatalf("%s: Read(%d, %d) = %x, %d, want error %d", name, at, many, got, e, want)
	}
}

// put writes values to one address of the flash, past the driver.
func put(t *testing.T, f *cfi.Flash, at int, values ...uint32) {
	t.Helper()
	for _, v := range values {
		mustBe(t, "Write past the driver", f.Write(at, v), api.OK)
	}
}

// locked reports which blocks of a flash that has no job are locked. It leaves the flash in mode id.
func locked(t *testing.T, f *cfi.Flash, blocks int) []bool {
	t.Helper()
	put(t, f, 0, cfi.ReadId)
	l := make([]bool, blocks)
	for block := range l {
		v, e := f.Read(block*api.Block + 2)
		mustBe(t, "Read past the driver", e, api.OK)
		l[block] = v == 1
	}
	return l
}

// P5.1
func TestNew(t *testing.T) {
	f := cfi.New(nor.New(2, 1))
	for _, blocks := range []int{1, 2, 3, 63, 64} {
		d := New(f, blocks)
		if d == nil || d.Blocks() != blocks || d.Ticks() != 0 {
			t.Errorf("New of %d blocks", blocks)
		}
		if New(nil, blocks) != nil {
			t.Errorf("New of no flash with %d blocks is a driver", blocks)
		}
	}
	for _, blocks := range []int{0, -1, -64, 65, 128, math.MinInt, math.MaxInt} {
		if New(f, blocks) != nil || New(nil, blocks) != nil {
			t.Errorf("New of %d blocks is a driver", blocks)
		}
	}
}

// P5.1: New gives the flash no command, whatever it is doing.
func TestNewLeavesTheFlash(t *testing.T) {
	c := nor.Of(counted(64), 1)
	f := cfi.New(c)
	put(t, f, 0, 0, cfi.Program)
	if New(f, 1) == nil {
		t.Fatal("New of a flash with a pending command is nil")
	}
	mustShow(t, "New", f, cfi.Ready|cfi.EraseError|cfi.WordError)
	put(t, f, 0, 0)
	mustShow(t, "what was pending", f, cfi.EraseError|cfi.WordError)
	c.Cut()
	if New(f, 1) == nil {
		t.Fatal("New of a flash without power is nil")
	}
	mustHold(t, "New", c, counted(64))
}

// P5.1: Blocks is the number that New was given, whatever the flash has.
func TestBlocksAreNotTheFlashs(t *testing.T) {
	for _, blocks := range []int{1, 3, 64} {
		c := nor.Of(counted(128), 1)
		d := New(cfi.New(c), blocks)
		mustRead(t, "the last word of the flash", d, 127, counted(128)[127])
		mustNotRead(t, "behind the flash", d, 128, 1, api.ErrOut)
		mustBe(t, "Erase of a block of the flash", d.Erase(1), api.OK)
		mustBe(t, "Erase behind the flash", d.Erase(2), api.ErrOut)
		if d.Blocks() != blocks {
			t.Errorf("%d blocks, want %d", d.Blocks(), blocks)
		}
	}
}

// P5.1 to P5.5, R2: whether New created the driver matters before anything else.
func TestNotMade(t *testing.T) {
	for name, d := range map[string]*Driver{"nil": nil, "zero": {}} {
		for range 2 {
			for _, n := range []int{0, 1, -1, 65, math.MinInt, math.MaxInt} {
				mustNotRead(t, name, d, 0, n, api.ErrNil)
				mustNotRead(t, name, d, n, 1, api.ErrNil)
				mustBe(t, name+": Program of nothing", d.Program(n), api.ErrNil)
				mustBe(t, name+": Program", d.Program(n, 1, 2), api.ErrNil)
				mustBe(t, name+": Erase", d.Erase(n), api.ErrNil)
				mustBe(t, name+": Lock", d.Lock(n, true), api.ErrNil)
				mustBe(t, name+": unlock", d.Lock(n, false), api.ErrNil)
			}
			if d.Ticks() != 0 || d.Blocks() != 0 {
				t.Errorf("%s: %d ticks, %d blocks", name, d.Ticks(), d.Blocks())
			}
		}
	}
}

// P5.1 to P5.5: a flash that its own New did not create is one; it refuses each write.
func TestZeroFlash(t *testing.T) {
	d := New(&cfi.Flash{}, 2)
	if d == nil || d.Blocks() != 2 {
		t.Fatal("New of a zero flash")
	}
	mustNotRead(t, "a zero flash", d, 0, 1, api.ErrNil)
	mustNotRead(t, "a zero flash", d, 0, 0, api.OK)
	mustNotRead(t, "a zero flash", d, 0, 65, api.ErrArg)
	mustBe(t, "Program", d.Program(0, 1), api.ErrNil)
	mustBe(t, "Program of nothing", d.Program(0), api.OK)
	mustBe(t, "Erase", d.Erase(0), api.ErrNil)
	mustBe(t, "Lock", d.Lock(0, true), api.ErrNil)
	mustTick(t, "a zero flash", d, 0)
}

// P5.2
func TestRead(t *testing.T) {
	d, _, c := made(t, 3, 1)
	want := counted(192)
	for _, many := range []int{1, 2, 7, 63, 64} {
		for at := 0; at+many <= 192; at++ {
			mustRead(t, "Read", d, at, want[at:at+many]...)
		}
	}
	mustHold(t, "Read", c, want)
	mustTick(t, "Read", d, 0)
}

// P5.2: whatever mode the flash was in, and whatever errors it had.
func TestReadSetsTheMode(t *testing.T) {
	for _, v := range []uint32{cfi.ReadArray, cfi.ReadStatus, cfi.ReadId, cfi.ReadQuery, cfi.Clear, 0} {
		d, f, _ := made(t, 1, 1)
		put(t, f, 0, v)
		status := f.Status()
		mustRead(t, "Read", d, 0, counted(64)...)
		mustShow(t, "Read clears no errors", f, status)
		if w, e := f.Read(9); w != counted(64)[9] || e != api.OK {
			t.Errorf("the mode after Read: %#x, %d", w, e)
		}
	}
}

// P5.2
func TestReadRefusesHowMany(t *testing.T) {
	d, f, c := made(t, 3, 1)
	put(t, f, 0, cfi.ReadId)
	for _, on := range []bool{true, false} {
		if !on {
			c.Cut()
		}
		for _, at := range []int{0, 1, 191, 192, -1, math.MinInt, math.MaxInt} {
			for _, many := range []int{-1, -2, -64, 65, 66, 128, 192, math.MinInt, math.MaxInt} {
				mustNotRead(t, "too many", d, at, many, api.ErrArg)
			}
			mustNotRead(t, "none", d, at, 0, api.OK)
		}
	}
	c.On()
	if w, e := f.Read(0); w != 0x89 || e != api.OK {
		t.Errorf("the mode is not as it was: %#x, %d", w, e)
	}
}

// P5.2
func TestReadErrors(t *testing.T) {
	d, f, c := made(t, 2, 1)
	for _, at := range []int{-1, -64, 128, 129, math.MinInt, math.MaxInt, math.MaxInt - 62} {
		put(t, f, 0, cfi.ReadId)
		mustNotRead(t, "no such word", d, at, 1, api.ErrOut)
		mustNotRead(t, "no such word", d, at, 64, api.ErrOut)
		if w, _ := f.Read(0); w != 0x89 {
			t.Errorf("ReadArray was written elsewhere: %#x", w)
		}
	}
	for _, s := range []struct{ at, many int }{{127, 2}, {126, 3}, {65, 64}, {127, 64}} {
		put(t, f, 0, cfi.ReadId)
		mustNotRead(t, "behind the flash", d, s.at, s.many, api.ErrOut)
		if w, _ := f.Read(0); w != counted(1)[0] {
			t.Errorf("ReadArray was not written: %#x", w)
		}
	}
	c.Cut()
	for _, at := range []int{0, 127, 128, -1} {
		mustNotRead(t, "no power", d, at, 2, api.ErrOff)
	}
	c.On()
	mustRead(t, "with power again", d, 126, counted(128)[126:]...)
	mustTick(t, "Read", d, 0)
}

// P5.2
func TestReadIsNotShared(t *testing.T) {
	d, _, c := made(t, 1, 1)
	first, _ := d.Read(3, 4)
	first[0] = 99
	second, _ := d.Read(3, 4)
	if !slices.Equal(second, counted(64)[3:7]) {
		t.Errorf("Read after a change of what was read: %x", second)
	}
	mustBe(t, "Program", d.Program(3, 0, 0), api.OK)
	mustRead(t, "Program", d, 3, 0, 0)
	if !slices.Equal(second, counted(64)[3:7]) || first[0] != 99 {
		t.Error("a program changed what was read")
	}
	mustHold(t, "Read", c, append([]uint32{counted(3)[0], counted(3)[1], counted(3)[2], 0, 0}, counted(64)[5:]...))
}

// P5.3, P5.5, P5.6
func TestProgram(t *testing.T) {
	for many := range 70 {
		for _, at := range []int{0, 1, 60, 63, 64, 128 - many} {
			c := nor.New(3, 1)
			d := New(cfi.New(c), 3)
			words := counted(many)
			mustBe(t, "Program", d.Program(at, words...), api.OK)
			mustTick(t, "Program", d, 3*many)
			want := slices.Repeat([]uint32{ones}, 192)
			copy(want[at:], counted(many))
			mustHold(t, "Program", c, want)
			if !slices.Equal(words, counted(many)) {
				t.Fatal("Program changed the words that it was given")
			}
		}
	}
}

// P5.3, P5.6: bits that were 0 stay 0.
func TestProgramClearsOnly(t *testing.T) {
	d, _, c := made(t, 1, 1)
	want := counted(64)
	for i, v := range []uint32{0xf0f0f0f0, 0, ones, 0xff, cfi.ReadArray, cfi.Program, cfi.Erase, cfi.Confirm, cfi.Lock, cfi.Locks, cfi.Clear} {
		for _, at := range []int{i, 20} {
			mustBe(t, "Program", d.Program(at, v), api.OK)
			want[at] &= v
			mustRead(t, "Program", d, at, want[at])
		}
	}
	mustHold(t, "Program", c, want)
	mustTick(t, "Program", d, 66)
}

// P5.3: no words need no flash.
func TestProgramOfNothing(t *testing.T) {
	d, f, c := made(t, 1, 1)
	put(t, f, 0, 0, cfi.ReadId)
	status := f.Status()
	for _, on := range []bool{true, false} {
		if !on {
			c.Cut()
		}
		for _, at := range []int{0, 64, -1, math.MinInt, math.MaxInt} {
			mustBe(t, "Program of nothing", d.Program(at), api.OK)
			mustBe(t, "Program of nothing", d.Program(at, []uint32{}...), api.OK)
		}
	}
	c.On()
	mustShow(t, "Program of nothing", f, status)
	if w, _ := f.Read(0); w != 0x89 {
		t.Errorf("the mode is not as it was: %#x", w)
	}
	mustTick(t, "Program of nothing", d, 0)
	mustHold(t, "Program of nothing", c, counted(64))
}

// P5.3: the first error ends the call; what came before it is done.
func TestProgramErrors(t *testing.T) {
	d, f, c := made(t, 2, 1)
	want := counted(128)
	for _, at := range []int{-1, -64, 128, 129, math.MinInt, math.MaxInt} {
		mustBe(t, "no such word", d.Program(at, 1, 2, 3), api.ErrOut)
		mustTick(t, "no such word", d, 0)
	}
	mustHold(t, "no such word", c, want)
	mustBe(t, "behind the flash", d.Program(126, 0, 1, 2, 3), api.ErrOut)
	want[126], want[127] = 0, want[127]&1
	mustHold(t, "behind the flash", c, want)
	mustTick(t, "behind the flash", d, 6)
	mustBe(t, "Lock", d.Lock(1, true), api.OK)
	mustBe(t, "into a locked block", d.Program(62, 0, 1, 2, 3), api.ErrLock)
	want[62], want[63] = 0, want[63]&1
	mustHold(t, "into a locked block", c, want)
	mustTick(t, "into a locked block", d, 12)
	mustShow(t, "into a locked block", f, cfi.Ready)
	c.Cut()
	for _, at := range []int{0, 64, 128, -1} {
		mustBe(t, "no power", d.Program(at, 0), api.ErrOff)
	}
	mustHold(t, "no power", c, want)
	mustTick(t, "no power", d, 12)
}

// P5.3, P5.5: a tick that fails is counted.
func TestProgramWhilePowerFails(t *testing.T) {
	for n := 1; n <= 5; n++ {
		d, _, c := made(t, 1, 1)
		want := counted(64)
		c.Fuse(n, 0xff)
		mustBe(t, "Program", d.Program(10, 0, 0, 0, 0, 0, 0), api.ErrOff)
		mustTick(t, "Program", d, 3*n)
		clear(want[10 : 10+n-1])
		want[10+n-1] &^= 0xff
		mustHold(t, "Program", c, want)
		mustBe(t, "no power", d.Program(10, 0), api.ErrOff)
		mustNotRead(t, "no power", d, 10, 1, api.ErrOff)
		mustTick(t, "no power", d, 3*n)
		c.On()
		mustRead(t, "with power again", d, 0, want...)
		mustBe(t, "with power again", d.Program(10+n-1, 0), api.OK)
		mustRead(t, "with power again", d, 10+n-1, 0)
		mustTick(t, "with power again", d, 3*n+3)
	}
}

// P5.4, P5.5, P5.6
func TestErase(t *testing.T) {
	for block := range 3 {
		for _, far := range []int{0, around, -around, 3 * around} {
			d, f, c := made(t, 3, 2)
			want := counted(192)
			for i := range 64 {
				want[block*64+i] = ones
			}
			mustBe(t, "Erase", d.Erase(block+far), api.OK)
			mustHold(t, "Erase", c, want)
			mustTick(t, "Erase", d, 20)
			mustShow(t, "Erase", f, cfi.Ready)
			mustBe(t, "Program", d.Program(block*64+5, 7), api.OK)
			mustRead(t, "Program of an erased word", d, block*64+4, ones, 7, ones)
			mustTick(t, "Program", d, 23)
			for b := range 3 {
				if (c.Wear(b) == 1) != (b == block) {
					t.Errorf("Erase(%d): block %d was erased %d times", block, b, c.Wear(b))
				}
			}
		}
	}
}

// P5.4: a worn block refuses after the ticks of an erasure.
func TestEraseOfAWornBlock(t *testing.T) {
	d, f, c := made(t, 2, 1)
	mustBe(t, "Erase", d.Erase(1), api.OK)
	mustBe(t, "Program", d.Program(64, 7), api.OK)
	want := append(counted(64), 7)
	want = append(want, slices.Repeat([]uint32{ones}, 63)...)
	for i := range 3 {
		mustBe(t, "Erase of a worn block", d.Erase(1), api.ErrWorn)
		mustTick(t, "Erase of a worn block", d, 23+20*(i+1))
		mustShow(t, "Erase of a worn block", f, cfi.Ready)
		mustHold(t, "Erase of a worn block", c, want)
	}
	mustBe(t, "Program of a worn block", d.Program(64, 4), api.OK)
	mustRead(t, "Program of a worn block", d, 64, 4)
}

// P5.4, R2
func TestEraseAndLockErrors(t *testing.T) {
	for name, do := range map[string]func(d *Driver, block int) api.Errno{
		"Erase":  func(d *Driver, block int) api.Errno { return d.Erase(block) },
		"Lock":   func(d *Driver, block int) api.Errno { return d.Lock(block, true) },
		"unlock": func(d *Driver, block int) api.Errno { return d.Lock(block, false) },
	} {
		d, f, c := made(t, 2, 1)
		mustBe(t, name, d.Lock(1, true), api.OK)
		for _, block := range []int{-1, -2, 2, 3, 64, math.MinInt + 2, math.MaxInt, around / 2, around - 1, around + 2} {
			mustBe(t, name, do(d, block), api.ErrOut)
		}
		if l := locked(t, f, 2); l[0] || !l[1] {
			t.Errorf("%s: locks %v", name, l)
		}
		c.Cut()
		for _, block := range []int{0, 1, 2, -1} {
			mustBe(t, name, do(d, block), api.ErrOff)
		}
		mustHold(t, name, c, counted(128))
		mustTick(t, name, d, 0)
		c.On()
		if l := locked(t, f, 2); l[0] || !l[1] {
			t.Errorf("%s without power: locks %v", name, l)
		}
	}
}

// P5.4, P5.5
func TestEraseWhilePowerFails(t *testing.T) {
	d, f, c := made(t, 2, 3)
	c.Fuse(1, 0)
	mustBe(t, "Erase", d.Erase(1), api.ErrOff)
	mustTick(t, "Erase", d, 20)
	mustHold(t, "Erase of no bits", c, counted(128))
	if c.Wear(1) != 1 || c.Up() {
		t.Errorf("wear %d, up: %v", c.Wear(1), c.Up())
	}
	mustBe(t, "no power", d.Erase(1), api.ErrOff)
	mustTick(t, "no power", d, 20)
	c.On()
	mustShow(t, "with power again", f, cfi.Ready)
	mustBe(t, "with power again", d.Erase(1), api.OK)
	mustTick(t, "with power again", d, 40)
	mustRead(t, "with power again", d, 64, slices.Repeat([]uint32{ones}, 64)...)
}

// P5.4
func TestLock(t *testing.T) {
	for block := range 3 {
		for _, far := range []int{0, around, -around} {
			d, f, c := made(t, 3, 5)
			for i, on := range []bool{true, true, false, false, true} {
				mustBe(t, "Lock", d.Lock(block+far, on), api.OK)
				mustShow(t, "Lock", f, cfi.Ready)
				for b, l := range locked(t, f, 3) {
					if l != (on && b == block) {
						t.Fatalf("call %d of Lock(%d): block %d is locked: %v", i, block, b, l)
					}
				}
			}
			mustTick(t, "Lock", d, 0)
			mustHold(t, "Lock", c, counted(192))
		}
	}
}

// P5.4, P5.5: what a lock refuses takes no ticks.
func TestLockedBlock(t *testing.T) {
	d, f, c := made(t, 2, 5)
	mustBe(t, "Lock", d.Lock(1, true), api.OK)
	for range 2 {
		for _, at := range []int{64, 100, 127} {
			mustBe(t, "Program of a locked block", d.Program(at, 0), api.ErrLock)
			mustShow(t, "Program of a locked block", f, cfi.Ready)
		}
		mustBe(t, "Erase of a locked block", d.Erase(1), api.ErrLock)
		mustShow(t, "Erase of a locked block", f, cfi.Ready)
	}
	mustRead(t, "a locked block", d, 64, counted(128)[64:]...)
	mustTick(t, "a locked block", d, 0)
	mustHold(t, "a locked block", c, counted(128))
	mustBe(t, "Program of another block", d.Program(63, 0), api.OK)
	mustBe(t, "Erase of another block", d.Erase(0), api.OK)
	mustBe(t, "unlock", d.Lock(1, false), api.OK)
	mustTick(t, "other blocks", d, 23)
	mustBe(t, "Program of an unlocked block", d.Program(64, 0), api.OK)
	mustBe(t, "Erase of an unlocked block", d.Erase(1), api.OK)
	mustTick(t, "an unlocked block", d, 46)
}

// P5.3, P5.4: the status is checked for what it has, whichever call brought it there.
func TestStatusTells(t *testing.T) {
	wear := func(f *cfi.Flash) { f.Write(0, cfi.Erase); f.Write(0, cfi.Confirm); f.Tick(20) }
	refused := func(f *cfi.Flash) {
		f.Write(64, cfi.Lock)
		f.Write(64, cfi.Locks)
		f.Write(64, cfi.Erase)
		f.Write(64, cfi.Confirm)
	}
	word := func(f *cfi.Flash) {
		f.Write(64, cfi.Lock)
		f.Write(64, cfi.Locks)
		f.Write(64, cfi.Program)
		f.Write(64, 0)
	}
	wrong := func(f *cfi.Flash) { f.Write(0, 0) }
	for i, s := range []struct {
		before []func(f *cfi.Flash)
		status uint32
		want   api.Errno
	}{
		{nil, 0, api.OK},
		{[]func(f *cfi.Flash){wear}, cfi.EraseError, api.ErrWorn},
		{[]func(f *cfi.Flash){wrong}, cfi.EraseError | cfi.WordError, api.ErrOrder},
		{[]func(f *cfi.Flash){wear, wrong}, cfi.EraseError | cfi.WordError, api.ErrOrder},
		{[]func(f *cfi.Flash){refused}, cfi.EraseError | cfi.Locked, api.ErrLock},
		{[]func(f *cfi.Flash){word}, cfi.WordError | cfi.Locked, api.ErrLock},
		{[]func(f *cfi.Flash){wrong, refused}, cfi.EraseError | cfi.WordError | cfi.Locked, api.ErrLock},
		{[]func(f *cfi.Flash){word, wear}, cfi.EraseError | cfi.WordError | cfi.Locked, api.ErrLock},
	} {
		for name, do := range map[string]func(d *Driver) api.Errno{
			"Program": func(d *Driver) api.Errno { return d.Program(3, 0, 0) },
			"Lock":    func(d *Driver) api.Errno { return d.Lock(0, true) },
			"unlock":  func(d *Driver) api.Errno { return d.Lock(2, false) },
			"Erase":   func(d *Driver) api.Errno { return d.Erase(2) },
		} {
			c := nor.New(3, 1)
			mustBe(t, "Erase past the driver", c.Erase(0), api.OK)
			f := cfi.New(c)
			d := New(f, 3)
			for _, do := range s.before {
				do(f)
			}
			mustShow(t, "before", f, s.status|cfi.Ready)
			mustRead(t, "before", d, 3, ones)
			mustBe(t, name, do(d), s.want)
			mustShow(t, name, f, cfi.Ready)
			mustBe(t, name+" again, without errors", d.Lock(0, false), api.OK)
			if w := c.Words()[3:5]; name == "Program" && (w[0] != 0 || (w[1] == 0) != (s.want == api.OK)) {
				t.Errorf("number %d: %x is programmed", i, w)
			}
		}
	}
}

// P5.4: what is checked does not undo what was done.
func TestLockIsDoneDespiteErrors(t *testing.T) {
	d, f, _ := made(t, 2, 1)
	put(t, f, 0, 0)
	mustBe(t, "Lock", d.Lock(1, true), api.ErrOrder)
	if l := locked(t, f, 2); l[0] || !l[1] {
		t.Errorf("locks %v", l)
	}
	put(t, f, 0, 0)
	mustBe(t, "unlock", d.Lock(1, false), api.ErrOrder)
	if l := locked(t, f, 2); l[0] || l[1] {
		t.Errorf("locks %v", l)
	}
}

// P5.4: Lock does not wait; the flash ignores it during a job, and so it does Clear.
func TestLockDuringAJob(t *testing.T) {
	for _, v := range []uint32{cfi.ReadArray, 0} {
		d, f, c := made(t, 2, 1)
		put(t, f, 9, v, cfi.Program, 0)
		status, want := f.Status(), api.OK
		if v == 0 {
			want = api.ErrOrder
		}
		mustBe(t, "Lock", d.Lock(0, true), want)
		mustShow(t, "Lock", f, status)
		mustTick(t, "Lock", d, 0)
		mustHold(t, "Lock", c, counted(128))
		mustBe(t, "Tick past the driver", f.Tick(3), api.OK)
		if l := locked(t, f, 2); l[0] || l[1] {
			t.Errorf("locks %v", l)
		}
	}
}

// P5.3, P5.4, P5.5: to wait takes the ticks that the job still has.
func TestWaitForAJobPastTheDriver(t *testing.T) {
	for left := 1; left <= 20; left++ {
		for name, do := range map[string]func(d *Driver) api.Errno{
			"Program": func(d *Driver) api.Errno { return d.Program(3, 0) },
			"Erase":   func(d *Driver) api.Errno { return d.Erase(0) },
		} {
			d, f, c := made(t, 2, 1)
			put(t, f, 64, cfi.Erase, cfi.Confirm)
			mustBe(t, "Tick past the driver", f.Tick(20-left), api.OK)
			mustBe(t, name, do(d), api.OK)
			mustTick(t, name, d, left)
			mustHold(t, name, c, append(counted(64), slices.Repeat([]uint32{ones}, 64)...))
			mustBe(t, name+" behind that", do(d), api.OK)
			if c.Words()[3] == counted(4)[3] {
				t.Errorf("%s behind the job: nothing is done", name)
			}
		}
	}
}

// P5.3: Clear is written at 0, where the flash takes it for what belongs to a command that is pending.
func TestClearIsWrittenAtWord0(t *testing.T) {
	d, f, c := made(t, 2, 1)
	put(t, f, 0, cfi.Lock)
	// The first write of Program ends the pending command; the second one makes its own pending.
	mustBe(t, "Program", d.Program(70, cfi.Program), api.ErrOrder)
	mustShow(t, "Program", f, cfi.EraseError|cfi.WordError)
	mustBe(t, "Tick past the driver", f.Tick(3), api.OK)
	want := counted(128)
	want[0] &= cfi.Clear
	mustHold(t, "Program", c, want)
	mustTick(t, "Program", d, 0)
}

// P5.5
func TestTicksAreTheDrivers(t *testing.T) {
	c := nor.New(1, 1)
	f := cfi.New(c)
	one, other := New(f, 1), New(f, 1)
	mustBe(t, "Tick past the driver", f.Tick(7), api.OK)
	mustBe(t, "Program", one.Program(0, 1, 2), api.OK)
	mustBe(t, "Program", other.Program(5, 1), api.OK)
	mustTick(t, "one driver", one, 6)
	mustTick(t, "another driver of the flash", other, 3)
	f.Reset()
	mustTick(t, "Reset", one, 6)
	if one.Blocks() != 1 {
		t.Errorf("%d blocks", one.Blocks())
	}
}

// second reads the chapter a second time: all calls in one function, by plain loops over a flash of its own.
type second struct {
	f     *cfi.Flash
	ticks int
}

// call does one call by the chapter's words. Kinds 0 to 3 are Read, Program, Erase, and Lock.
func (s *second) call(kind, at, many int, words []uint32, on bool) (got []uint32, e api.Errno) {
	switch kind {
	case 0:
		if many < 0 || many > 64 {
			return nil, api.ErrArg
		}
		if many == 0 {
			return nil, api.OK
		}
		if e = s.f.Write(at, 0xff); e != 0 {
			return nil, e
		}
		for p := at; p < at+many; p++ {
			w, e := s.f.Read(p)
			if e != 0 {
				return nil, e
			}
			got = append(got, w)
		}
		return got, api.OK
	case 1:
		for len(words) > 0 {
			if e = s.change(at, 0x40, words[0], true); e != 0 {
				return nil, e
			}
			at, words = at+1, words[1:]
		}
		return nil, api.OK
	case 2:
		return nil, s.change(at*64, 0x20, 0xd0, true)
	}
	if on {
		return nil, s.change(at*64, 0x60, 1, false)
	}
	return nil, s.change(at*64, 0x60, 0xd0, false)
}

// change writes two values, waits if it must, and looks at the bits of the status.
func (s *second) change(at int, command, v uint32, wait bool) api.Errno {
	if e := s.f.Write(at, command); e != 0 {
		return e
	}
	if e := s.f.Write(at, v); e != 0 {
		return e
	}
	for wait && s.f.Status() < 0x80 {
		e := s.f.Tick(1)
		s.ticks++
		if e != 0 {
			return e
		}
	}
	bits := s.f.Status() % 0x80
	if bits == 0 {
		return api.OK
	}
	s.f.Write(0, 0x50)
	if bits&2 != 0 {
		return api.ErrLock
	}
	if bits == 0x30 {
		return api.ErrOrder
	}
	return api.ErrWorn
}

// pair is two chips with two flashes, one behind a driver and one behind the second reading.
type pair struct {
	d  *Driver
	f  *cfi.Flash
	c  *nor.Chip
	s  second
	c2 *nor.Chip
}

// paired returns a pair with these words.
func paired(words []uint32, endure int) *pair {
	p := &pair{c: nor.Of(words, endure), c2: nor.Of(words, endure)}
	p.f, p.s.f = cfi.New(p.c), cfi.New(p.c2)
	p.d = New(p.f, p.c.Blocks())
	return p
}

// past does one chosen thing on both sides that is not a call of the driver.
func (p *pair) past(r *rand.Rand) {
	at, v, n := r.Intn(p.c.Blocks()*64), r.Uint32(), 1+r.Intn(8)
	commands := []uint32{cfi.ReadArray, cfi.ReadStatus, cfi.ReadId, cfi.ReadQuery, cfi.Clear, cfi.Program, cfi.Erase, cfi.Confirm, cfi.Lock, cfi.Locks, 0}
	command := commands[r.Intn(len(commands))]
	what := r.Intn(8)
	for i, f := range []*cfi.Flash{p.f, p.s.f} {
		c := []*nor.Chip{p.c, p.c2}[i]
		switch what {
		case 0, 1, 2:
			f.Write(at, v&^0xff|command)
		case 3:
			f.Tick(n)
		case 4:
			c.Fuse(n, v)
		case 5:
			c.Cut()
		case 6:
			f.Reset()
		default:
			c.On()
		}
	}
}

// both does one chosen call on both sides, and compares what it returns.
func (p *pair) both(t *testing.T, r *rand.Rand) {
	t.Helper()
	kind, many, on := r.Intn(4), r.Intn(68)-1, r.Intn(2) == 0
	at := r.Intn(p.c.Blocks()*64+4) - 2
	if kind >= 2 {
		at = r.Intn(p.c.Blocks()+2) - 1 + around*(r.Intn(3)-1)
	}
	words := make([]uint32, r.Intn(4))
	for i := range words {
		words[i] = r.Uint32() | r.Uint32()
	}
	want, wantE := p.s.call(kind, at, many, words, on)
	var got []uint32
	var e api.Errno
	switch kind {
	case 0:
		got, e = p.d.Read(at, many)
	case 1:
		e = p.d.Program(at, words...)
	case 2:
		e = p.d.Erase(at)
	default:
		e = p.d.Lock(at, on)
	}
	if !slices.Equal(got, want) || e != wantE {
		t.Fatalf("call %d at %d: %x, %d, want %x, %d", kind, at, got, e, want, wantE)
	}
}

// mustAgree fails the test unless the two sides show the same.
func (p *pair) mustAgree(t *testing.T) {
	t.Helper()
	mustTick(t, "mixed calls", p.d, p.s.ticks)
	mustShow(t, "mixed calls", p.f, p.s.f.Status())
	mustHold(t, "mixed calls", p.c, p.c2.Words())
	for _, at := range []int{0, 1, 2, 16, 63} {
		w, e := p.f.Read(at)
		w2, e2 := p.s.f.Read(at)
		if w != w2 || e != e2 {
			t.Fatalf("the mode: word %d reads %#x, %d, want %#x, %d", at, w, e, w2, e2)
		}
	}
}

// P5.2 to P5.6, in mixed order, with a flash that others use as well.
func TestSecondReading(t *testing.T) {
	for seed := range int64(60) {
		r := rand.New(rand.NewSource(seed))
		p := paired(counted(64*(1+r.Intn(3))), r.Intn(6))
		for range 400 {
			if r.Intn(4) == 0 {
				p.past(r)
			}
			p.both(t, r)
			p.mustAgree(t)
		}
	}
}

// P5.6: in mixed order, what was programmed is there, and each call takes its ticks.
func TestWords(t *testing.T) {
	for seed := range int64(20) {
		r := rand.New(rand.NewSource(seed))
		d, _, _ := made(t, 2, 1000)
		want, ticks, locks := counted(128), 0, [2]bool{}
		for range 300 {
			at, v := r.Intn(128), r.Uint32()|r.Uint32()
			block := at / 64
			switch r.Intn(8) {
			case 0:
				if e := d.Erase(block); (e == api.ErrLock) != locks[block] {
					t.Fatalf("Erase(%d): error %d", block, e)
				} else if e == api.OK {
					copy(want[block*64:][:64], slices.Repeat([]uint32{ones}, 64))
					ticks += 20
				}
			case 1:
				locks[block] = r.Intn(2) == 0
				mustBe(t, "Lock", d.Lock(block, locks[block]), api.OK)
			default:
				if e := d.Program(at, v); (e == api.ErrLock) != locks[block] {
					t.Fatalf("Program(%d): error %d", at, e)
				} else if e == api.OK {
					want[at] &= v
					ticks += 3
				}
			}
			mustTick(t, "mixed calls", d, ticks)
			mustRead(t, "mixed calls", d, 0, want[:64]...)
			mustRead(t, "mixed calls", d, 64, want[64:]...)
		}
	}
}
