package cfi

import (
	"math"
	"math/rand"
	"slices"
	"testing"

	"dioptra/api"
	"dioptra/nor"
)

// upper is above the low byte of a value: it is no part of a command.
const upper = 0xabcdef00

// counted returns so many words that all differ.
func counted(many int) []uint32 {
	l := make([]uint32, many)
	for i := range l {
		l[i] = 0x12345678 + uint32(i)*0x01010101
	}
	return l
}

// made returns a flash of so many blocks with words that all differ, and its chip.
func made(t *testing.T, blocks, endure int) (*Flash, *nor.Chip) {
	t.Helper()
	c := nor.Of(counted(blocks*api.Block), endure)
	f := New(c)
	if f == nil {
		t.Fatalf("New of %d blocks is nil", blocks)
	}
	return f, c
}

// mustBe fails the test unless a call returned this error.
func mustBe(t *testing.T, name string, got, want api.Errno) {
	t.Helper()
	if got != want {
		t.Fatalf("%s: error %d, want %d", name, got, want)
	}
}

// write writes values to one address, one by one, each of which must succeed.
func write(t *testing.T, f *Flash, at int, values ...uint32) {
	t.Helper()
	for _, v := range values {
		if e := f.Write(at, v); e != api.OK {
			t.Fatalf("Write(%d, %#x): error %d", at, v, e)
		}
	}
}

// tick lets time go on, which must succeed.
func tick(t *testing.T, f *Flash, n int) {
	t.Helper()
	if e := f.Tick(n); e != api.OK {
		t.Fatalf("Tick(%d): error %d", n, e)
	}
}

// mustRead fails the test unless Read returns this value.
func mustRead(t *testing.T, name string, f *Flash, at int, want uint32) {
	t.Helper()
	if got, e := f.Read(at); got != want || e != api.OK {
		t.Fatalf("%s: Read(%d) = %#x, %d, want %#x", name, at, got, e, want)
	}
}

// mustShow fails the test unless the flash is in mode status, with this status.
func mustShow(t *testing.T, name string, f *Flash, want uint32) {
	t.Helper()
	if f.Status() != want {
		t.Fatalf("%s: status %#x, want %#x", name, f.Status(), want)
	}
	for _, at := range []int{0, 1, 2, 0x10, 63} {
		mustRead(t, name, f, at, want)
	}
}

// mustHold fails the test unless the chip has these words.
func mustHold(t *testing.T, name string, c *nor.Chip, want []uint32) {
	t.Helper()
	if !slices.Equal(c.Words(), want) {
		t.Fatalf("%s: the words of the chip are not as they should be", name)
	}
}

// mustBeInitial fails the test unless the flash is in the initial state.
// It asks what the mode shows first, and leaves the flash in mode id.
func mustBeInitial(t *testing.T, name string, f *Flash, c *nor.Chip) {
	t.Helper()
	if f.Status() != Ready {
		t.Fatalf("%s: status %#x", name, f.Status())
	}
	for at, w := range c.Words() {
		mustRead(t, name, f, at, w)
	}
	write(t, f, 0, ReadId)
	if f.Status() != Ready {
		t.Fatalf("%s: a command was pending, status %#x", name, f.Status())
	}
	for block := range c.Blocks() {
		mustRead(t, name, f, block*api.Block, 0x89)
		mustRead(t, name+": a lock", f, block*api.Block+2, 0)
	}
}

// P3.1
func TestNew(t *testing.T) {
	for _, blocks := range []int{1, 2, 64} {
		f, c := made(t, blocks, 1)
		mustBeInitial(t, "New", f, c)
		tick(t, f, 100)
		mustHold(t, "New", c, counted(blocks*64))
	}
	if New(nil) != nil || New(&nor.Chip{}) != nil {
		t.Error("New of no blocks is a flash")
	}
	c := nor.New(1, 1)
	c.Cut()
	f := New(c)
	if f == nil || f.Status() != Ready || c.Up() {
		t.Fatal("New of a chip without power")
	}
	c.On()
	mustBeInitial(t, "New of a chip without power", f, c)
}

// P3.1
func TestReset(t *testing.T) {
	for name, before := range map[string]func(f *Flash, c *nor.Chip){
		"nothing":           func(f *Flash, c *nor.Chip) {},
		"mode status":       func(f *Flash, c *nor.Chip) { f.Write(0, ReadStatus) },
		"mode id":           func(f *Flash, c *nor.Chip) { f.Write(0, ReadId) },
		"mode query":        func(f *Flash, c *nor.Chip) { f.Write(0, ReadQuery) },
		"errors":            func(f *Flash, c *nor.Chip) { f.Write(0, 0) },
		"a pending program": func(f *Flash, c *nor.Chip) { f.Write(0, Program) },
		"a pending erase":   func(f *Flash, c *nor.Chip) { f.Write(0, Erase) },
		"a pending lock":    func(f *Flash, c *nor.Chip) { f.Write(0, Lock) },
		"locks": func(f *Flash, c *nor.Chip) {
			f.Write(0, Lock)
			f.Write(0, Locks)
			f.Write(64, Lock)
			f.Write(64, Locks)
		},
		"a program":           func(f *Flash, c *nor.Chip) { f.Write(0, Program); f.Write(0, 0) },
		"a program half done": func(f *Flash, c *nor.Chip) { f.Write(0, Program); f.Write(0, 0); f.Tick(2) },
		"an erase":            func(f *Flash, c *nor.Chip) { f.Write(0, Erase); f.Write(0, Confirm); f.Tick(19) },
		"no power":            func(f *Flash, c *nor.Chip) { f.Write(0, 0); f.Write(0, Lock); f.Write(0, Locks); c.Cut() },
	} {
		f, c := made(t, 2, 1)
		before(f, c)
		up := c.Up()
		f.Reset()
		if c.Up() != up {
			t.Errorf("%s: Reset changed the power", name)
		}
		c.On()
		mustBeInitial(t, name, f, c)
		tick(t, f, 100)
		mustHold(t, name, c, counted(128))
		write(t, f, 1, Program, 0)
		tick(t, f, 2)
		mustShow(t, name+": a job behind Reset", f, 0)
		tick(t, f, 1)
		mustShow(t, name+": a job done behind Reset", f, Ready)
	}
}

// P3.1: words that were changed stay as they are.
func TestResetKeepsTheWords(t *testing.T) {
	f, c := made(t, 2, 1)
	write(t, f, 5, Program, 0)
	tick(t, f, 3)
	write(t, f, 64, Erase, Confirm)
	tick(t, f, 20)
	want := c.Words()
	f.Reset()
	mustHold(t, "Reset", c, want)
	if c.Wear(1) != 1 {
		t.Errorf("Wear(1) = %d", c.Wear(1))
	}
}

// P3.1 to P3.5
func TestNotMade(t *testing.T) {
	for name, f := range map[string]*Flash{"nil": nil, "zero": {}} {
		for range 2 {
			for _, at := range []int{0, -1, math.MaxInt} {
				for _, v := range []uint32{Program, Lock, Locks, ReadId} {
					mustBe(t, name+": Write", f.Write(at, v), api.ErrNil)
				}
				if w, e := f.Read(at); w != 0 || e != api.ErrNil {
					t.Errorf("%s: Read(%d) = %#x, %d", name, at, w, e)
				}
			}
			for _, n := range []int{0, 1, -1, math.MinInt} {
				mustBe(t, name+": Tick", f.Tick(n), api.ErrNil)
			}
			if f.Status() != 0 {
				t.Errorf("%s: status %#x", name, f.Status())
			}
			f.Reset()
		}
	}
}

// P3.2, P3.3, P3.4: without power nothing else matters, and nothing changes.
func TestPowerOff(t *testing.T) {
	f, c := made(t, 2, 1)
	write(t, f, 3, ReadId, Program, 0)
	tick(t, f, 1)
	c.Cut()
	for _, at := range []int{0, 127, 128, -1} {
		mustBe(t, "Write", f.Write(at, Clear), api.ErrOff)
		if w, e := f.Read(at); w != 0 || e != api.ErrOff {
			t.Errorf("Read(%d) = %#x, %d", at, w, e)
		}
	}
	for _, n := range []int{0, 1, 2, 100, -1} {
		mustBe(t, "Tick", f.Tick(n), api.ErrOff)
	}
	if f.Status() != 0 {
		t.Errorf("status without power, with a job: %#x", f.Status())
	}
	mustHold(t, "without power", c, counted(128))
	c.On()
	tick(t, f, 1)
	mustShow(t, "with power again", f, 0)
	tick(t, f, 1)
	mustShow(t, "the job is done", f, Ready)
	write(t, f, 0, 0)
	c.Cut()
	if f.Status() != Ready|EraseError|WordError {
		t.Errorf("status without power, without a job: %#x", f.Status())
	}
	mustBe(t, "Write", f.Write(0, Clear), api.ErrOff)
	c.On()
	mustShow(t, "behind a Write without power", f, Ready|EraseError|WordError)
}

// P3.2, P3.3
func TestNoSuchWord(t *testing.T) {
	for _, blocks := range []int{1, 2, 64} {
		f, c := made(t, blocks, 1)
		for _, m := range []uint32{ReadArray, ReadStatus, ReadId, ReadQuery} {
			write(t, f, 0, m)
			before, _ := f.Read(0)
			for _, at := range []int{-1, -64, blocks * 64, blocks*64 + 2, math.MinInt, math.MaxInt} {
				mustBe(t, "Write", f.Write(at, 0), api.ErrOut)
				mustBe(t, "Write", f.Write(at, Program), api.ErrOut)
				if w, e := f.Read(at); w != 0 || e != api.ErrOut {
					t.Errorf("Read(%d) = %#x, %d", at, w, e)
				}
			}
			mustRead(t, "behind refused calls", f, 0, before)
		}
		if f.Status() != Ready {
			t.Errorf("status behind refused calls: %#x", f.Status())
		}
		write(t, f, blocks*64-1, Program, 0)
		mustBe(t, "Write during a job", f.Write(blocks*64, 0), api.ErrOut)
		if w, e := f.Read(-1); w != 0 || e != api.ErrOut {
			t.Errorf("Read(-1) during a job = %#x, %d", w, e)
		}
		tick(t, f, 3)
		if c.Words()[blocks*64-1] != 0 {
			t.Error("the last word was not programmed")
		}
	}
}

// P3.2: a write where there is no word leaves the pending command.
func TestPendingIsKeptByRefusedWrites(t *testing.T) {
	f, c := made(t, 1, 1)
	write(t, f, 0, Program)
	mustBe(t, "Write", f.Write(64, 0), api.ErrOut)
	c.Cut()
	mustBe(t, "Write", f.Write(7, 0), api.ErrOff)
	c.On()
	write(t, f, 7, 0)
	tick(t, f, 3)
	want := counted(64)
	want[7] = 0
	mustHold(t, "program", c, want)
}

// P3.2, P3.3
func TestModes(t *testing.T) {
	f, _ := made(t, 2, 1)
	for _, s := range []struct {
		v           uint32
		w0, w1, w16 uint32
	}{
		{ReadArray, 0x12345678, 0x13355779, 0x22446688},
		{ReadStatus, Ready, Ready, Ready},
		{ReadId, 0x89, 0x18, 0},
		{ReadQuery, 0, 0, 0x51},
		{ReadArray, 0x12345678, 0x13355779, 0x22446688},
		{ReadId, 0x89, 0x18, 0},
		{Clear, Ready, Ready, Ready},
		{ReadQuery, 0, 0, 0x51},
		{ReadStatus, Ready, Ready, Ready},
	} {
		for _, v := range []uint32{s.v, s.v | upper, s.v | 0x100} {
			write(t, f, 70, v)
			mustRead(t, "a mode", f, 0, s.w0)
			mustRead(t, "a mode", f, 1, s.w1)
			mustRead(t, "a mode", f, 16, s.w16)
		}
	}
}

// P3.2: the modes in which each command leaves the flash, whichever it was in.
func TestCommandsSetModeStatus(t *testing.T) {
	for _, m := range []uint32{ReadArray, ReadStatus, ReadId, ReadQuery} {
		for _, v := range []uint32{Clear, Program, Erase, Lock, Clear | upper, Program | upper, Erase | upper, Lock | upper} {
			f, _ := made(t, 1, 1)
			write(t, f, 0, m, v)
			mustShow(t, "a command", f, Ready)
		}
		f, _ := made(t, 1, 1)
		write(t, f, 0, m, 0x77)
		mustShow(t, "no command", f, Ready|EraseError|WordError)
	}
}

// P3.2
func TestNoCommand(t *testing.T) {
	commands := []uint32{ReadArray, ReadStatus, ReadId, ReadQuery, Clear, Program, Erase, Lock}
	for low := range uint32(256) {
		for _, high := range []uint32{0, upper, 0xffffff00} {
			f, c := made(t, 1, 1)
			write(t, f, 0, low|high)
			want := uint32(Ready | EraseError | WordError)
			if slices.Contains(commands, low) {
				want = Ready
			}
			if f.Status() != want {
				t.Errorf("Write(0, %#x): status %#x, want %#x", low|high, f.Status(), want)
			}
			if want != Ready {
				mustShow(t, "no command", f, want)
				write(t, f, 0, ReadId)
				mustRead(t, "nothing is pending", f, 0, 0x89)
				mustRead(t, "nothing is locked", f, 2, 0)
			}
			tick(t, f, 100)
			mustHold(t, "one write", c, counted(64))
		}
	}
}

// P3.2
func TestClear(t *testing.T) {
	f, _ := made(t, 2, 0)
	write(t, f, 0, Lock, Locks, Program, 0)
	mustShow(t, "Program of a locked block", f, Ready|WordError|Locked)
	write(t, f, 0, ReadArray)
	if f.Status() != Ready|WordError|Locked {
		t.Errorf("ReadArray changed the status: %#x", f.Status())
	}
	write(t, f, 0, Clear)
	mustShow(t, "Clear", f, Ready)
	write(t, f, 0, Erase, Confirm, 0)
	mustShow(t, "all errors", f, Ready|EraseError|WordError|Locked)
	write(t, f, 0, Clear)
	mustShow(t, "Clear of all", f, Ready)
	write(t, f, 0, ReadId)
	mustRead(t, "Clear leaves the lock", f, 2, 1)
}

// P3.2: errors stay till Clear.
func TestErrorsStay(t *testing.T) {
	f, _ := made(t, 1, 5)
	write(t, f, 0, 0)
	want := uint32(Ready | EraseError | WordError)
	for _, v := range []uint32{ReadArray, ReadStatus, ReadId, ReadQuery} {
		write(t, f, 0, v)
		if f.Status() != want {
			t.Errorf("behind %#x: status %#x", v, f.Status())
		}
	}
	write(t, f, 0, Program, 0)
	mustShow(t, "during a program", f, EraseError|WordError)
	tick(t, f, 3)
	mustShow(t, "behind a program", f, want)
	write(t, f, 0, Erase, Confirm)
	mustShow(t, "during an erase", f, EraseError|WordError)
	tick(t, f, 20)
	mustShow(t, "behind an erase", f, want)
	write(t, f, 0, Lock, Locks)
	mustShow(t, "behind a lock", f, want)
}

// P3.2: while a command is pending, no value is a command.
func TestPendingTakesAnyValue(t *testing.T) {
	for low := range uint32(256) {
		for _, v := range []uint32{low, low | upper} {
			f, c := made(t, 2, 1)
			want := counted(128)
			want[70] &= v
			write(t, f, 70, Program, v)
			mustShow(t, "a program", f, 0)
			tick(t, f, 3)
			mustShow(t, "a program", f, Ready)
			mustHold(t, "a program", c, want)

			f, c = made(t, 2, 1)
			write(t, f, 70, Erase, v)
			erases := low == 0xd0
			shown := uint32(Ready | EraseError | WordError)
			if erases {
				shown = 0
			}
			mustShow(t, "an erase", f, shown)
			tick(t, f, 20)
			if (c.Wear(1) == 1) != erases || c.Wear(0) != 0 {
				t.Errorf("erase with %#x: wear %d, %d", v, c.Wear(0), c.Wear(1))
			}

			f, c = made(t, 2, 1)
			write(t, f, 70, Lock, v)
			shown = Ready | EraseError | WordError
			if low == 0x01 || low == 0xd0 {
				shown = Ready
			}
			mustShow(t, "a lock", f, shown)
			write(t, f, 0, ReadId)
			mustRead(t, "the other block", f, 2, 0)
			locked := uint32(0)
			if low == 0x01 {
				locked = 1
			}
			mustRead(t, "the block", f, 66, locked)
			mustHold(t, "a lock", c, counted(128))
		}
	}
}

// P3.2: the second write gives the address.
func TestSecondAddressCounts(t *testing.T) {
	f, c := made(t, 2, 5)
	want := counted(128)
	write(t, f, 3, Program)
	write(t, f, 99, 0xff00ff00)
	tick(t, f, 3)
	want[99] &= 0xff00ff00
	mustHold(t, "program", c, want)
	write(t, f, 99, Erase)
	write(t, f, 63, Confirm)
	tick(t, f, 20)
	copy(want, slices.Repeat([]uint32{0xffffffff}, 64))
	mustHold(t, "erase", c, want)
	write(t, f, 0, Lock)
	write(t, f, 64, Locks, ReadId)
	mustRead(t, "lock", f, 2, 0)
	mustRead(t, "lock", f, 66, 1)
	write(t, f, 0, Lock)
	write(t, f, 127, Confirm, ReadId)
	mustRead(t, "unlock", f, 66, 0)
}

// P3.2: a second command follows as if none had been pending.
func TestNothingIsPendingBehindTheSecondWrite(t *testing.T) {
	for _, l := range [][]uint32{
		{Lock, Locks}, {Lock, Confirm}, {Lock, 0}, {Erase, 0}, {Lock, Locks, Program, 0}, {Lock, Locks, Erase, Confirm},
	} {
		f, c := made(t, 1, 1)
		write(t, f, 0, l...)
		write(t, f, 0, ReadQuery)
		mustRead(t, "a command", f, 0x10, 0x51)
		tick(t, f, 100)
		mustHold(t, "a command", c, counted(64))
	}
}

// P3.2, P3.3
func TestLocks(t *testing.T) {
	f, c := made(t, 64, 1)
	for block := 1; block < 64; block += 2 {
		write(t, f, block*64+block, Lock, Locks)
	}
	write(t, f, 64, Lock, Locks)
	for block := range 64 {
		odd := uint32(block % 2)
		write(t, f, 0, Clear, ReadId)
		mustRead(t, "a lock", f, block*64+2, odd)
		write(t, f, block*64+63, Program, 0)
		mustShow(t, "Program", f, odd*(Ready|WordError|Locked))
		tick(t, f, 3)
		write(t, f, block*64, Clear, Erase, 0x20)
		mustShow(t, "Erase without Confirm", f, Ready|EraseError|WordError)
		write(t, f, block*64, Clear, Erase, Confirm)
		mustShow(t, "Erase", f, odd*(Ready|EraseError|Locked))
		tick(t, f, 20)
		if c.Wear(block) != 1-block%2 {
			t.Errorf("Wear(%d) = %d", block, c.Wear(block))
		}
	}
	for block := range 64 {
		write(t, f, block*64+5, Clear, Lock, Confirm, ReadId)
		mustRead(t, "a lock that was taken away", f, block*64+2, 0)
		write(t, f, block*64+1, Program, 0)
		mustShow(t, "Program", f, 0)
		tick(t, f, 3)
		if c.Words()[block*64+1] != 0 {
			t.Errorf("block %d is locked still", block)
		}
	}
}

// P3.2: the lock is asked for when the job starts.
func TestLockCountsWhenTheJobStarts(t *testing.T) {
	f, c := made(t, 1, 1)
	write(t, f, 0, Program, 0, Lock, Locks)
	tick(t, f, 3)
	mustShow(t, "the job is done", f, Ready)
	if c.Words()[0] != 0 {
		t.Error("the word was not programmed")
	}
	write(t, f, 0, ReadId)
	mustRead(t, "a lock that was written during a job", f, 2, 0)
}

// P3.2: during a job no write does anything.
func TestWriteDuringAJob(t *testing.T) {
	for low := range uint32(256) {
		for _, start := range [][]uint32{{Program, 0xf0f0f0f0}, {Erase, Confirm}} {
			f, c := made(t, 2, 1)
			write(t, f, 9, start...)
			write(t, f, 70, low, 0, low, Confirm, low, Locks)
			mustShow(t, "during the job", f, 0)
			tick(t, f, 20)
			mustShow(t, "behind the job", f, Ready)
			want := counted(128)
			if start[0] == Program {
				want[9] &= 0xf0f0f0f0
			} else {
				copy(want, slices.Repeat([]uint32{0xffffffff}, 64))
			}
			mustHold(t, "behind the job", c, want)
			write(t, f, 0, ReadId)
			mustRead(t, "nothing is pending", f, 0, 0x89)
			mustRead(t, "nothing is locked", f, 66, 0)
		}
	}
}

// P3.3
func TestReadId(t *testing.T) {
	f, _ := made(t, 3, 1)
	write(t, f, 64, Lock, Locks, ReadId)
	for at := range 192 {
		want := uint32(0)
		switch at {
		case 0, 64, 128:
			want = 0x89
		case 1, 65, 129:
			want = 0x18
		case 66:
			want = 1
		}
		mustRead(t, "mode id", f, at, want)
	}
}

// P3.3: what mode query shows is there once, not in each block.
func TestReadQuery(t *testing.T) {
	for _, blocks := range []int{1, 5, 64} {
		f, _ := made(t, blocks, 1)
		write(t, f, 0, ReadQuery)
		for at := range blocks * 64 {
			want := map[int]uint32{0x10: 0x51, 0x11: 0x52, 0x12: 0x59, 0x2c: uint32(blocks)}[at]
			mustRead(t, "mode query", f, at, want)
		}
	}
}

// P3.3, P3.5
func TestReadStatus(t *testing.T) {
	f, _ := made(t, 2, 1)
	write(t, f, 0, ReadStatus)
	for at := range 128 {
		mustRead(t, "mode status", f, at, Ready)
	}
	write(t, f, 0, Erase, 0)
	for at := range 128 {
		mustRead(t, "mode status", f, at, Ready|EraseError|WordError)
	}
	write(t, f, 0, Erase, Confirm)
	for at := range 128 {
		mustRead(t, "a job", f, at, EraseError|WordError)
	}
}

// P3.3: mode array shows the chip's words, also those that the chip got by itself.
func TestReadArray(t *testing.T) {
	f, c := made(t, 2, 1)
	for at, w := range counted(128) {
		mustRead(t, "mode array", f, at, w)
	}
	mustBe(t, "Program of the chip", c.Program(77, 0), api.OK)
	mustRead(t, "mode array", f, 77, 0)
	write(t, f, 5, Program, 7)
	tick(t, f, 3)
	write(t, f, 0, ReadArray)
	mustRead(t, "mode array", f, 5, counted(128)[5]&7)
}

// P3.4: when a job of so many ticks is done, however they come.
func TestTicks(t *testing.T) {
	for _, s := range []struct {
		second []uint32
		ticks  []int
		done   bool
	}{
		{[]uint32{Program, 0}, []int{}, false},
		{[]uint32{Program, 0}, []int{0, 0, 0, 0}, false},
		{[]uint32{Program, 0}, []int{2}, false},
		{[]uint32{Program, 0}, []int{1, 1}, false},
		{[]uint32{Program, 0}, []int{3}, true},
		{[]uint32{Program, 0}, []int{1, 1, 1}, true},
		{[]uint32{Program, 0}, []int{2, 0, 1}, true},
		{[]uint32{Program, 0}, []int{2, 5}, true},
		{[]uint32{Program, 0}, []int{4}, true},
		{[]uint32{Program, 0}, []int{2, math.MaxInt}, true},
		{[]uint32{Program, 0}, []int{math.MaxInt}, true},
		{[]uint32{Erase, Confirm}, []int{19}, false},
		{[]uint32{Erase, Confirm}, []int{3, 10, 0, 6}, false},
		{[]uint32{Erase, Confirm}, []int{20}, true},
		{[]uint32{Erase, Confirm}, []int{19, 1}, true},
		{[]uint32{Erase, Confirm}, []int{21}, true},
		{[]uint32{Erase, Confirm}, []int{math.MaxInt}, true},
	} {
		f, c := made(t, 1, 1)
		write(t, f, 0, s.second...)
		for _, n := range s.ticks {
			mustHold(t, "before the job is done", c, counted(64))
			mustShow(t, "before the job is done", f, 0)
			tick(t, f, n)
		}
		if !s.done {
			mustShow(t, "the job is not done", f, 0)
			mustHold(t, "the job is not done", c, counted(64))
			continue
		}
		mustShow(t, "the job is done", f, Ready)
		want := counted(64)
		want[0] = 0
		if s.second[0] == Erase {
			want = slices.Repeat([]uint32{0xffffffff}, 64)
		}
		mustHold(t, "the job is done", c, want)
	}
}

// P3.4
func TestTickRefuses(t *testing.T) {
	f, c := made(t, 1, 1)
	for _, n := range []int{-1, -3, -20, math.MinInt} {
		mustBe(t, "Tick without a job", f.Tick(n), api.ErrArg)
	}
	write(t, f, 0, Program, 0)
	tick(t, f, 2)
	for _, n := range []int{-1, -3, -20, math.MinInt} {
		mustBe(t, "Tick during a job", f.Tick(n), api.ErrArg)
		mustShow(t, "during a job", f, 0)
	}
	mustHold(t, "during a job", c, counted(64))
	tick(t, f, 1)
	mustShow(t, "the job is done", f, Ready)
	c.Cut()
	mustBe(t, "Tick without power", f.Tick(-1), api.ErrOff)
}

// P3.4: ticks without a job are not kept for the next one, and a job is done once.
func TestTicksWithoutAJob(t *testing.T) {
	f, c := made(t, 1, 5)
	tick(t, f, 100)
	mustRead(t, "mode array", f, 0, 0x12345678)
	write(t, f, 0, Erase)
	tick(t, f, 100)
	mustShow(t, "a pending command", f, Ready)
	write(t, f, 0, Confirm)
	tick(t, f, 19)
	mustShow(t, "the job", f, 0)
	tick(t, f, 100)
	tick(t, f, 100)
	if c.Wear(0) != 1 {
		t.Errorf("Wear(0) = %d, want 1", c.Wear(0))
	}
	write(t, f, 0, Program, 0)
	tick(t, f, 2)
	mustShow(t, "the next job", f, 0)
}

// P3.4
func TestWornBlock(t *testing.T) {
	f, c := made(t, 2, 1)
	write(t, f, 64, Erase, Confirm)
	tick(t, f, 20)
	mustShow(t, "the first erasure", f, Ready)
	write(t, f, 65, Program, 5)
	tick(t, f, 3)
	before := c.Words()
	write(t, f, 64, Erase, Confirm)
	tick(t, f, 20)
	mustShow(t, "a worn block", f, Ready|EraseError)
	mustHold(t, "a worn block", c, before)
	tick(t, f, 20)
	write(t, f, 64, Clear)
	mustShow(t, "a worn block, cleared", f, Ready)
	write(t, f, 0, Erase, Confirm)
	tick(t, f, 20)
	mustShow(t, "another block", f, Ready)
	if c.Wear(0) != 1 || c.Wear(1) != 1 {
		t.Errorf("Wear: %d, %d, want 1, 1", c.Wear(0), c.Wear(1))
	}
}

// P3.4: the power fails during the job, which is gone then.
func TestPowerFailsDuringTheJob(t *testing.T) {
	for _, start := range [][]uint32{{Program, 0}, {Erase, Confirm}} {
		f, c := made(t, 2, 9)
		write(t, f, 64, 0, start[0], start[1])
		c.Fuse(1, 0xff)
		tick(t, f, 2)
		mustBe(t, "Tick as the power fails", f.Tick(18), api.ErrOff)
		if c.Up() || f.Status() != Ready|EraseError|WordError {
			t.Errorf("up: %v, status %#x", c.Up(), f.Status())
		}
		left := c.Words()
		if slices.Equal(left, counted(128)) {
			t.Error("the job was not done, not even in part")
		}
		mustBe(t, "Tick without power", f.Tick(18), api.ErrOff)
		c.On()
		tick(t, f, 100)
		mustShow(t, "with power again", f, Ready|EraseError|WordError)
		mustHold(t, "with power again", c, left)
	}
}

// P3.4: what a program leaves when the power fails is the chip's.
func TestProgramInPart(t *testing.T) {
	c := nor.New(1, 1)
	f := New(c)
	c.Fuse(1, 0xff)
	write(t, f, 5, Program, 0)
	mustBe(t, "Tick", f.Tick(3), api.ErrOff)
	c.On()
	f.Reset()
	mustRead(t, "a word in part", f, 5, 0xffffff00)
}

// P3.5
func TestStatus(t *testing.T) {
	f, c := made(t, 1, 0)
	for _, s := range []struct {
		v    uint32
		n    int
		want uint32
	}{
		{ReadArray, 0, Ready},
		{ReadId, 0, Ready},
		{ReadQuery, 0, Ready},
		{Program, 0, Ready},
		{0, 0, 0},
		{0, 2, 0},
		{0, 1, Ready},
		{Erase, 0, Ready},
		{Confirm, 19, 0},
		{0, 1, Ready | EraseError},
		{ReadArray, 0, Ready | EraseError},
		{Lock, 0, Ready | EraseError},
		{Locks, 0, Ready | EraseError},
		{Clear, 0, Ready},
		{Program, 0, Ready},
		{0, 0, Ready | WordError | Locked},
		{1, 0, Ready | WordError | Locked | EraseError},
	} {
		write(t, f, 0, s.v)
		tick(t, f, s.n)
		if f.Status() != s.want {
			t.Fatalf("behind %#x and %d ticks: status %#x, want %#x", s.v, s.n, f.Status(), s.want)
		}
	}
	c.Cut()
	if f.Status() != Ready|WordError|Locked|EraseError {
		t.Errorf("status without power: %#x", f.Status())
	}
}

// P3.1: flashes of two chips have nothing in common.
func TestTwoFlashes(t *testing.T) {
	f, _ := made(t, 1, 1)
	g, c := made(t, 1, 1)
	write(t, f, 0, Lock, Locks, 0, Erase)
	mustBeInitial(t, "the other flash", g, c)
}

// slow takes the chapter's words one by one: a flash to hold the other one against.
// Its chip is its own, and has nothing to do with the other flash's.
type slow struct {
	chip     *nor.Chip
	mode     string
	pending  string
	erases   bool // error bits
	words    bool
	lock     bool
	locked   [api.Max]bool
	job      string
	left     int
	at       int
	value    uint32
	executed int
}

func (s *slow) reset() {
	*s = slow{chip: s.chip, mode: "array", executed: s.executed}
}

func (s *slow) status() uint32 {
	var v uint32
	if s.erases {
		v += 32
	}
	if s.words {
		v += 16
	}
	if s.lock {
		v += 2
	}
	if s.job == "" {
		v += 128
	}
	return v
}

func (s *slow) wrong(at int) api.Errno {
	if !s.chip.Up() {
		return api.ErrOff
	}
	if at < 0 || at >= s.chip.Blocks()*64 {
		return api.ErrOut
	}
	return api.OK
}

func (s *slow) write(at int, v uint32) api.Errno {
	if e := s.wrong(at); e != api.OK || s.job != "" {
		return e
	}
	was := s.pending
	s.pending = ""
	low := v % 256
	if was == "" {
		s.command(low)
		return api.OK
	}
	s.mode = "status"
	locked := s.locked[at/64]
	switch {
	case was == "program" && locked:
		s.words, s.lock = true, true
	case was == "program":
		s.job, s.left, s.at, s.value = "program", 3, at, v
	case was == "erase" && low == 0xd0 && locked:
		s.erases, s.lock = true, true
	case was == "erase" && low == 0xd0:
		s.job, s.left, s.at = "erase", 20, at
	case was == "lock" && low == 0x01:
		s.locked[at/64] = true
	case was == "lock" && low == 0xd0:
		s.locked[at/64] = false
	default:
		s.erases, s.words = true, true
	}
	return api.OK
}

func (s *slow) command(low uint32) {
	modes := map[uint32]string{0xff: "array", 0x70: "status", 0x90: "id", 0x98: "query"}
	pending := map[uint32]string{0x40: "program", 0x20: "erase", 0x60: "lock"}
	if m, ok := modes[low]; ok {
		s.mode = m
		return
	}
	s.mode = "status"
	if p, ok := pending[low]; ok {
		s.pending = p
	} else if low == 0x50 {
		s.erases, s.words, s.lock = false, false, false
	} else {
		s.erases, s.words = true, true
	}
}

func (s *slow) read(at int) (uint32, api.Errno) {
	if e := s.wrong(at); e != api.OK {
		return 0, e
	}
	switch {
	case s.job != "" || s.mode == "status":
		return s.status(), api.OK
	case s.mode == "array":
		return s.chip.Words()[at], api.OK
	case s.mode == "id" && at%64 == 2 && s.locked[at/64]:
		return 1, api.OK
	case s.mode == "id":
		return map[int]uint32{0: 0x89, 1: 0x18}[at%64], api.OK
	}
	return map[int]uint32{16: 0x51, 17: 0x52, 18: 0x59, 44: uint32(s.chip.Blocks())}[at], api.OK
}

func (s *slow) tick(n int) api.Errno {
	if !s.chip.Up() {
		return api.ErrOff
	}
	if n < 0 {
		return api.ErrArg
	}
	for range n {
		if s.job == "" {
			return api.OK
		}
		s.left--
		if s.left > 0 {
			continue
		}
		e := api.OK
		if s.job == "program" {
			e = s.chip.Program(s.at, s.value)
		} else {
			e = s.chip.Erase(s.at / 64)
		}
		s.job = ""
		s.executed++
		if e == api.ErrWorn {
			s.erases = true
		} else if e != api.OK {
			return e
		}
	}
	return api.OK
}

// anyValue returns a value that is often a command.
func anyValue(r *rand.Rand) uint32 {
	commands := []uint32{0xff, 0x70, 0x90, 0x98, 0x50, 0x40, 0x40, 0x20, 0x20, 0xd0, 0xd0, 0x60, 0x60, 0x01, 0x01}
	v := commands[r.Intn(len(commands))]
	switch r.Intn(8) {
	case 0:
		return r.Uint32()
	case 1:
		return v | r.Uint32()<<8
	}
	return v
}

// both does one chosen call on the flash and on the slow one, and compares the answers.
func both(t *testing.T, r *rand.Rand, f *Flash, c *nor.Chip, s *slow) {
	t.Helper()
	at := r.Intn(c.Blocks()*64+2) - 1
	switch r.Intn(16) {
	case 0, 1, 2, 3:
		n := r.Intn(24) - 1
		mustBe(t, "Tick", f.Tick(n), s.tick(n))
	case 4, 5:
		got, e := f.Read(at)
		want, ee := s.read(at)
		if got != want || e != ee {
			t.Fatalf("Read(%d) = %#x, %d, want %#x, %d", at, got, e, want, ee)
		}
	case 6:
		n, pick := r.Intn(5), r.Uint32()
		c.Fuse(n, pick)
		s.chip.Fuse(n, pick)
	case 7:
		if r.Intn(4) == 0 {
			c.Cut()
			s.chip.Cut()
		}
	case 8:
		c.On()
		s.chip.On()
	case 9:
		if r.Intn(3) == 0 {
			f.Reset()
			s.reset()
		}
	default:
		v := anyValue(r)
		mustBe(t, "Write", f.Write(at, v), s.write(at, v))
	}
}

// P3.1 to P3.6, in mixed order.
func TestWordByWord(t *testing.T) {
	executed := 0
	for seed := range int64(40) {
		r := rand.New(rand.NewSource(seed))
		blocks, endure := 1+r.Intn(3), r.Intn(6)
		f, c := made(t, blocks, endure)
		s := &slow{chip: nor.Of(counted(blocks*64), endure), mode: "array"}
		for range 1000 {
			before, done := c.Words(), s.executed
			both(t, r, f, c, s)
			if f.Status() != s.status() || c.Up() != s.chip.Up() {
				t.Fatalf("seed %d: status %#x, want %#x", seed, f.Status(), s.status())
			}
			mustHold(t, "mixed calls", c, s.chip.Words())
			if s.executed == done {
				mustHold(t, "without the execution of a job", c, before)
			}
		}
		executed += s.executed
	}
	if executed < 500 {
		t.Errorf("only %d jobs were executed", executed)
	}
}

// P3.6: nothing but the execution of a job changes words, nor wears blocks.
func TestStill(t *testing.T) {
	f, c := made(t, 2, 5)
	for at := range 128 {
		for _, v := range []uint32{ReadArray, ReadStatus, ReadId, ReadQuery, Clear, Lock, Locks, Lock, Confirm, Erase, 0, Program, 0} {
			write(t, f, at, v)
			_, e := f.Read(at)
			mustBe(t, "Read", e, api.OK)
		}
		tick(t, f, 2)
		f.Reset()
		write(t, f, at, Lock, Locks, Program, 0, Erase, Confirm)
		tick(t, f, 100)
		f.Reset()
		write(t, f, at, Erase, Confirm)
		tick(t, f, 19)
		f.Reset()
		tick(t, f, 100)
	}
	mustHold(t, "no job was executed", c, counted(128))
	if c.Wear(0) != 0 || c.Wear(1) != 0 {
		t.Errorf("Wear: %d, %d, want 0, 0", c.Wear(0), c.Wear(1))
	}
}
