package sector

import (
	"maps"
	"math"
	"math/rand"
	"slices"
	"testing"

	"dioptra/api"
	"dioptra/cfi"
	"dioptra/driver"
	"dioptra/ftl"
	"dioptra/nor"
)

// The store of layer 8 is a disk.
var _ Disk = (*ftl.Store)(nil)

// value is what a sector has.
type value = [4]uint32

// call is one that a disk was given, by its command; v is what Write was given.
type call struct {
	command, sector int
	v               value
}

// junk is what the plate reads together with an error.
var junk = value{0xdead, 0xbeef, 0xdead, 0xbeef}

// plate is a disk that keeps its calls, and returns errors for some of its sectors.
type plate struct {
	size   int
	has    map[int]value
	errors map[int]api.Errno
	calls  []call
}

func (p *plate) Sectors() int { return p.size }

func (p *plate) Read(sector int) ([api.Data]uint32, api.Errno) {
	p.calls = append(p.calls, call{Read, sector, value{}})
	if e := p.errors[sector]; e != api.OK {
		return junk, e
	}
	return p.has[sector], api.OK
}

func (p *plate) Write(sector int, v [api.Data]uint32) api.Errno {
	p.calls = append(p.calls, call{Write, sector, v})
	if p.errors[sector] == api.OK {
		p.has[sector] = v
	}
	return p.errors[sector]
}

func (p *plate) Trim(sector int) api.Errno {
	p.calls = append(p.calls, call{Trim, sector, value{}})
	if p.errors[sector] == api.OK {
		p.has[sector] = value{}
	}
	return p.errors[sector]
}

// valueOf is what a sector of a new plate has.
func valueOf(sector int) value {
	n := uint32(sector)
	return value{n + 1, n * 3, ^n, 7}
}

// made returns a plate of so many sectors that all differ, and a device of it.
func made(size int) (*Device, *plate) {
	p := &plate{size: size, has: map[int]value{}, errors: map[int]api.Errno{}}
	for n := range min(size, 64) {
		p.has[n] = valueOf(n)
	}
	return New(p), p
}

// words are 16 that all differ, as four values.
var words = [4]value{{101, 102, 103, 104}, {105, 106, 107, 108}, {109, 110, 111, 112}, {113, 114, 115, 116}}

// filled returns a device as made does, whose buffer has these words, and whose position is 0.
func filled(t *testing.T, size int) (*Device, *plate) {
	t.Helper()
	d, p := made(size)
	for _, v := range words {
		set(t, d, Window, v[:]...)
	}
	return d, p
}

// set writes values to a register, one by one.
func set(t *testing.T, d *Device, reg int, values ...uint32) {
	t.Helper()
	for _, v := range values {
		if e := d.Set(reg, v); e != api.OK {
			t.Fatalf("Set(%d, %#x): error %d", reg, v, e)
		}
	}
}

// do gives a command with its sectors.
func do(t *testing.T, d *Device, command, first, many uint32) {
	t.Helper()
	set(t, d, First, first)
	set(t, d, Many, many)
	set(t, d, Command, command)
}

// get returns a register.
func get(t *testing.T, d *Device, reg int) uint32 {
	t.Helper()
	v, e := d.Get(reg)
	if e != api.OK {
		t.Fatalf("Get(%d): error %d", reg, e)
	}
	return v
}

// mustGet fails the test unless a register has these values, one after another.
func mustGet(t *testing.T, name string, d *Device, reg int, want ...uint32) {
	t.Helper()
	for i, w := range want {
		if v := get(t, d, reg); v != w {
			t.Fatalf("%s: Get(%d), time %d = %#x, want %#x", name, reg, i, v, w)
		}
	}
}

// mustHold fails the test unless the position is 0 and the buffer has these words. The position is 0 again afterwards.
func mustHold(t *testing.T, name string, d *Device, want [4]value) {
	t.Helper()
	for _, v := range want {
		mustGet(t, name, d, Window, v[:]...)
	}
}

// mustEnd fails the test unless the last command ended with this Error.
func mustEnd(t *testing.T, name string, d *Device, want uint32) {
	t.Helper()
	mustGet(t, name, d, Error, want)
	mustGet(t, name, d, Line, 1)
	status := uint32(1)
	if want != 0 {
		status = 3
	}
	mustGet(t, name, d, Status, status)
	if !d.Up() {
		t.Fatalf("%s: not up", name)
	}
}

// mustCall fails the test unless a plate was given these calls, and forgets them.
func mustCall(t *testing.T, name string, p *plate, want ...call) {
	t.Helper()
	if !slices.Equal(p.calls, want) {
		t.Fatalf("%s: the disk's calls are %v, want %v", name, p.calls, want)
	}
	p.calls = nil
}

// mustKeep fails the test unless a plate has what it had before.
func mustKeep(t *testing.T, name string, p *plate, before map[int]value) {
	t.Helper()
	if !maps.Equal(p.has, before) {
		t.Fatalf("%s: the disk has %v, want %v", name, p.has, before)
	}
}

// P10.1 to P10.3: the example of the chapter.
func TestExample(t *testing.T) {
	d, _ := made(12)
	set(t, d, Many, 1)
	set(t, d, Window, 5, 6, 7, 8)
	set(t, d, Command, Write)
	set(t, d, Command, Read)
	mustGet(t, "the first word", d, Window, 5)
}

// P10.1, P10.2
func TestNew(t *testing.T) {
	if New(nil) != nil {
		t.Error("New of no disk is a device")
	}
	d, p := made(12)
	for reg, want := range map[int]uint32{Command: 0, First: 0, Many: 0, Status: 1, Error: 0, Size: 12, Line: 0} {
		mustGet(t, "at first", d, reg, want, want)
	}
	if d.Up() {
		t.Error("at first: up")
	}
	mustHold(t, "at first", d, [4]value{})
	mustCall(t, "at first", p)
}

// P10.1: a device of its own each time, also on one disk.
func TestTwoDevices(t *testing.T) {
	d, p := filled(t, 12)
	other := New(p)
	do(t, d, Write, 3, 1)
	for reg, want := range map[int]uint32{First: 0, Many: 0, Status: 1, Error: 0, Line: 0} {
		mustGet(t, "the other one", other, reg, want)
	}
	mustHold(t, "the other one", other, [4]value{})
	do(t, other, Read, 3, 1)
	mustHold(t, "the other one, after Read", other, [4]value{words[0]})
	mustHold(t, "the one", d, words)
}

// P10.2 to P10.4, R1, R2, R3, R5: what New did not create.
func TestNoDevice(t *testing.T) {
	for name, d := range map[string]*Device{"nil": nil, "zero": {}} {
		for _, reg := range []int{0, 1, 2, 3, 4, 5, 6, 7, -1, 8, math.MinInt, math.MaxInt} {
			for _, v := range []uint32{0, Read, Write, Trim, Flush, 5, math.MaxUint32} {
				if e := d.Set(reg, v); e != api.ErrNil {
					t.Errorf("%s: Set(%d, %d): error %d", name, reg, v, e)
				}
			}
			if v, e := d.Get(reg); v != 0 || e != api.ErrNil {
				t.Errorf("%s: Get(%d) = %d, %d", name, reg, v, e)
			}
		}
		if d.Up() {
			t.Errorf("%s: up", name)
		}
	}
}

// P10.2, P10.3, R3: there is no such register, and nothing changes.
func TestNoRegister(t *testing.T) {
	d, p := filled(t, 12)
	set(t, d, First, 3)
	set(t, d, Many, 1)
	for _, reg := range []int{-1, -2, -8, 8, 9, 16, 1 << 32, 1<<32 + 5, math.MinInt, math.MinInt + 5, math.MaxInt} {
		for _, v := range []uint32{0, Read, Write, Trim, Flush, 99} {
			if e := d.Set(reg, v); e != api.ErrOut {
				t.Errorf("Set(%d, %d): error %d", reg, v, e)
			}
		}
		if v, e := d.Get(reg); v != 0 || e != api.ErrOut {
			t.Errorf("Get(%d) = %d, %d", reg, v, e)
		}
	}
	for reg, want := range map[int]uint32{First: 3, Many: 1, Status: 1, Error: 0, Line: 0} {
		mustGet(t, "afterwards", d, reg, want)
	}
	mustHold(t, "afterwards", d, words)
	mustCall(t, "afterwards", p)
}

// P10.2, P10.3: First and Many keep every value, each of them for itself.
func TestFirstMany(t *testing.T) {
	d, p := filled(t, 12)
	for _, v := range []uint32{1, 4, 5, 12, 1 << 16, 1 << 31, math.MaxUint32, 0} {
		set(t, d, First, v)
		set(t, d, Many, ^v)
		mustGet(t, "set", d, First, v, v)
		mustGet(t, "set", d, Many, ^v, ^v)
	}
	mustGet(t, "nothing else", d, Error, 0)
	mustGet(t, "nothing else", d, Line, 0)
	mustHold(t, "nothing else", d, words)
	mustCall(t, "nothing else", p)
}

// P10.3: Status, Error and Size can't be set, neither ahead of a command nor behind one.
func TestSetWithoutEffect(t *testing.T) {
	d, p := filled(t, 12)
	check := func(name string, fault, line uint32) {
		t.Helper()
		for _, v := range []uint32{0, 1, 2, 3, 7, math.MaxUint32} {
			set(t, d, Status, v)
			set(t, d, Error, v)
			set(t, d, Size, v)
			mustGet(t, name, d, Status, 1+2*min(fault, 1))
			mustGet(t, name, d, Error, fault)
			mustGet(t, name, d, Size, 12)
			mustGet(t, name, d, Line, line)
		}
		mustHold(t, name, d, words)
	}
	check("at first", 0, 0)
	do(t, d, 9, 2, 1)
	check("a command that is none", 1, 1)
	do(t, d, Trim, 2, 0)
	check("no sectors", 2, 1)
	do(t, d, Flush, 2, 0)
	check("Flush", 0, 1)
	mustGet(t, "First", d, First, 2)
	mustGet(t, "Many", d, Many, 0)
	mustCall(t, "none", p)
}

// P10.2: Size is what the disk tells now; a register has 32 bits.
func TestSize(t *testing.T) {
	d, p := made(12)
	for size, want := range map[int]uint32{0: 0, 1: 1, 12: 12, 366: 366, math.MaxInt32: math.MaxInt32, 1 << 31: 1 << 31, math.MaxUint32: math.MaxUint32} {
		p.size = size
		mustGet(t, "Size", d, Size, want, want)
	}
	mustCall(t, "Size", p)
}

// P10.2, P10.3: reading and writing share the position, and 15 is followed by 0.
func TestWindow(t *testing.T) {
	d, _ := filled(t, 12)
	mustHold(t, "once", d, words)
	mustHold(t, "once more", d, words)
	mustGet(t, "read", d, Window, 101, 102, 103)
	set(t, d, Window, 1, 2)
	mustGet(t, "behind what was written", d, Window, 106, 107, 108, 109, 110, 111, 112, 113, 114)
	set(t, d, Window, 3, 4, math.MaxUint32)
	mustGet(t, "around", d, Window, 102, 103, 1, 2, 106)
	set(t, d, Command, Flush)
	mustHold(t, "all", d, [4]value{{math.MaxUint32, 102, 103, 1}, {2, 106, 107, 108}, words[2], {113, 114, 3, 4}})
}

// P10.2 to P10.4: no register but Window moves the position.
func TestPositionStays(t *testing.T) {
	d, _ := filled(t, 12)
	mustGet(t, "before", d, Window, 101, 102, 103)
	for _, reg := range []int{First, Many, Status, Error, Size, Line} {
		set(t, d, reg, 1)
		get(t, d, reg)
	}
	get(t, d, Command)
	d.Up()
	mustGet(t, "afterwards", d, Window, 104)
}

// P10.3: each command sets the position to 0, also one that is refused, or that the disk refuses.
func TestPositionZero(t *testing.T) {
	for name, c := range map[string]struct{ command, first, many, fault uint32 }{
		"Read":                     {Read, 0, 1, 0},
		"Write":                    {Write, 0, 1, 0},
		"Trim":                     {Trim, 0, 1, 0},
		"Flush":                    {Flush, 0, 1, 0},
		"none":                     {0, 0, 1, 1},
		"no sectors":               {Read, 0, 0, 2},
		"an error of the disk":     {Read, 7, 1, 5},
		"an error, behind a first": {Trim, 6, 2, 5},
	} {
		for position := range 16 {
			d, p := filled(t, 12)
			p.errors[7] = api.ErrWorn
			p.has[0] = words[0]
			for range position {
				get(t, d, Window)
			}
			do(t, d, c.command, c.first, c.many)
			mustEnd(t, name, d, c.fault)
			mustHold(t, name, d, words)
		}
	}
}

// P10.2 to P10.4: Line is 1 after a command, until it is set, whatever to.
func TestLine(t *testing.T) {
	for _, command := range []uint32{Read, Write, Trim, Flush, 0, 5} {
		for _, v := range []uint32{0, 1, 2, math.MaxUint32} {
			d, p := made(12)
			set(t, d, Line, v)
			mustGet(t, "ahead", d, Line, 0)
			do(t, d, command, 0, 1)
			mustGet(t, "after a command", d, Line, 1, 1)
			if !d.Up() || !d.Up() {
				t.Fatalf("after command %d: not up", command)
			}
			set(t, d, Command, command)
			mustGet(t, "after a second command", d, Line, 1)
			fault, calls := get(t, d, Error), len(p.calls)
			set(t, d, Line, v)
			mustGet(t, "set", d, Line, 0, 0)
			if d.Up() {
				t.Fatalf("after command %d, Line set to %d: up", command, v)
			}
			mustGet(t, "Error stays", d, Error, fault)
			if len(p.calls) != calls {
				t.Fatalf("setting Line called the disk: %v", p.calls)
			}
		}
	}
}

// P10.3, P10.5: a value that is no command; it comes ahead of sectors that may not be.
func TestNoCommand(t *testing.T) {
	for _, v := range []uint32{0, 5, 6, 7, 8, 255, 256 + Read, 1<<16 + Write, 1<<31 + Trim, 1<<31 + Flush, math.MaxUint32} {
		for _, many := range []uint32{0, 1, 4, 5, math.MaxUint32} {
			for _, first := range []uint32{0, 11, 12, math.MaxUint32} {
				d, p := filled(t, 12)
				before := maps.Clone(p.has)
				do(t, d, v, first, many)
				mustEnd(t, "no command", d, 1)
				mustHold(t, "no command", d, words)
				mustCall(t, "no command", p)
				mustKeep(t, "no command", p, before)
				mustGet(t, "no command", d, First, first)
				mustGet(t, "no command", d, Many, many)
			}
		}
	}
}

// P10.3, P10.5: sectors that a command can't have.
func TestNoSectors(t *testing.T) {
	for name, c := range map[string]struct {
		size        int
		first, many uint32
	}{
		"none":                       {12, 0, 0},
		"none at the end":            {12, 12, 0},
		"none far behind":            {12, math.MaxUint32, 0},
		"five":                       {12, 0, 5},
		"sixteen":                    {100, 0, 16},
		"very many":                  {12, 0, math.MaxUint32},
		"four in the lowest byte":    {12, 0, 256 + 4},
		"one in 31 bits":             {12, 0, 1<<31 + 1},
		"the end":                    {12, 12, 1},
		"past the end":               {12, 11, 2},
		"past the end by all but 1":  {12, 11, 4},
		"past the end by the last":   {12, 9, 4},
		"behind the end":             {12, 13, 1},
		"the half of all":            {12, 1 << 31, 1},
		"around to 0":                {12, math.MaxUint32, 1},
		"around to 1":                {12, math.MaxUint32, 2},
		"around to 3":                {12, math.MaxUint32, 4},
		"around to 0 by 4":           {12, math.MaxUint32 - 3, 4},
		"an empty disk":              {0, 0, 1},
		"a disk of one":              {1, 0, 2},
		"a disk of one, the second":  {1, 1, 1},
		"a disk of three, four":      {3, 0, 4},
		"a great disk, around to 0":  {math.MaxUint32, math.MaxUint32, 1},
		"a great disk, around to 2":  {math.MaxUint32, math.MaxUint32 - 1, 4},
		"a great disk, five":         {math.MaxUint32, 7, 5},
		"half a great disk, its end": {1 << 31, 1 << 31, 1},
	} {
		for _, command := range []uint32{Read, Write, Trim} {
			d, p := filled(t, c.size)
			before := maps.Clone(p.has)
			do(t, d, command, c.first, c.many)
			mustEnd(t, name, d, 2)
			mustHold(t, name, d, words)
			mustCall(t, name, p)
			mustKeep(t, name, p, before)
		}
	}
}

// places are sectors that a command can have, by the size of the disk.
var places = []struct {
	size        int
	first, many uint32
}{
	{12, 0, 1}, {12, 0, 2}, {12, 0, 3}, {12, 0, 4},
	{12, 5, 1}, {12, 5, 2}, {12, 5, 3}, {12, 5, 4},
	{12, 11, 1}, {12, 10, 2}, {12, 9, 3}, {12, 8, 4},
	{1, 0, 1}, {2, 0, 2}, {2, 1, 1}, {4, 0, 4}, {366, 362, 4},
	{1 << 31, 1<<31 - 4, 4}, {math.MaxUint32, math.MaxUint32 - 4, 4}, {math.MaxUint32, math.MaxUint32 - 1, 1},
}

// mustDo gives a command at all places. For the i-th sector of the command, effect tells the call of the disk,
// and changes the words of the buffer and what the sector has. Nothing else may change.
func mustDo(t *testing.T, name string, command uint32, effect func(i, sector int, inBuffer, onDisk *value) call) {
	t.Helper()
	for _, c := range places {
		d, p := filled(t, c.size)
		buffer := words
		var calls []call
		for i := range int(c.many) {
			n := int(c.first) + i
			p.has[n] = valueOf(n)
		}
		after := maps.Clone(p.has)
		for i := range int(c.many) {
			n := int(c.first) + i
			v := after[n]
			calls = append(calls, effect(i, n, &buffer[i], &v))
			after[n] = v
		}
		do(t, d, command, c.first, c.many)
		mustEnd(t, name, d, 0)
		mustCall(t, name, p, calls...)
		mustHold(t, name, d, buffer)
		mustKeep(t, name, p, after)
		mustGet(t, name, d, First, c.first)
		mustGet(t, name, d, Many, c.many)
	}
}

// P10.3: Read stores the words of the sectors in the buffer, one sector behind the other, and leaves the rest of it.
func TestRead(t *testing.T) {
	mustDo(t, "Read", Read, func(i, sector int, inBuffer, onDisk *value) call {
		*inBuffer = valueOf(sector)
		return call{Read, sector, value{}}
	})
}

// P10.3: Write writes the words of the buffer, one sector behind the other, and leaves them there.
func TestWrite(t *testing.T) {
	mustDo(t, "Write", Write, func(i, sector int, inBuffer, onDisk *value) call {
		*onDisk = words[i]
		return call{Write, sector, words[i]}
	})
}

// P10.3: Trim trims the sectors, and leaves the buffer.
func TestTrim(t *testing.T) {
	mustDo(t, "Trim", Trim, func(i, sector int, inBuffer, onDisk *value) call {
		*onDisk = value{}
		return call{Trim, sector, value{}}
	})
}

// P10.3: Flush does nothing, whatever First and Many are, and whatever the disk would return.
func TestFlush(t *testing.T) {
	for _, many := range []uint32{0, 1, 4, 5, math.MaxUint32} {
		for _, first := range []uint32{0, 7, 11, 12, math.MaxUint32} {
			d, p := filled(t, 12)
			p.errors[7] = api.ErrOff
			before := maps.Clone(p.has)
			do(t, d, 0, first, many)
			mustEnd(t, "ahead", d, 1)
			set(t, d, Command, Flush)
			mustEnd(t, "Flush", d, 0)
			mustHold(t, "Flush", d, words)
			mustCall(t, "Flush", p)
			mustKeep(t, "Flush", p, before)
		}
	}
}

// faults tells the register Error for each error of a disk.
var faults = map[api.Errno]uint32{
	api.ErrNil: 5, api.ErrArg: 5, api.ErrOut: 5, api.ErrOff: 4, api.ErrWorn: 5, api.ErrLock: 5, api.ErrOrder: 5, api.ErrForm: 5,
	api.ErrFull: 3, api.ErrRange: 5, api.ErrBusy: 5, api.ErrBig: 5, 13: 5, 99: 5, -1: 5, math.MaxInt: 5, math.MinInt: 5,
}

// otherThan returns an error that register Error tells by another number.
func otherThan(e api.Errno) api.Errno {
	if e == api.ErrFull {
		return api.ErrOff
	}
	return api.ErrFull
}

// P10.3: the disk's first error ends a command. What was done ahead of it is done, and nothing behind it.
func TestDiskErrors(t *testing.T) {
	for e, fault := range faults {
		for _, command := range []int{Read, Write, Trim} {
			for many := 1; many <= 4; many++ {
				for bad := range many {
					d, p := filled(t, 12)
					p.errors[3+bad] = e
					if bad+1 < many {
						p.errors[4+bad] = otherThan(e)
					}
					after, want, calls := maps.Clone(p.has), words, []call(nil)
					for i := range bad + 1 {
						c := call{command: command, sector: 3 + i}
						switch {
						case command == Write:
							c.v = words[i]
							if i < bad {
								after[c.sector] = words[i]
							}
						case command == Read && i < bad:
							want[i] = valueOf(c.sector)
						case command == Trim && i < bad:
							after[c.sector] = value{}
						}
						calls = append(calls, c)
					}
					do(t, d, uint32(command), 3, uint32(many))
					mustEnd(t, "an error", d, fault)
					mustCall(t, "an error", p, calls...)
					mustHold(t, "an error", d, want)
					mustKeep(t, "an error", p, after)
				}
			}
		}
	}
}

// P10.3: Error is that of the last command only.
func TestErrorOfLast(t *testing.T) {
	d, p := filled(t, 12)
	p.errors[3], p.errors[4], p.errors[5] = api.ErrFull, api.ErrOff, api.ErrRange
	commands := []struct{ command, first, many, fault uint32 }{
		{Read, 0, 1, 0}, {0, 0, 1, 1}, {Trim, 0, 0, 2}, {Write, 3, 1, 3}, {Write, 4, 1, 4}, {Read, 5, 1, 5}, {Flush, 0, 0, 0},
	}
	for _, x := range commands {
		for _, y := range commands {
			do(t, d, x.command, x.first, x.many)
			mustEnd(t, "the first", d, x.fault)
			do(t, d, y.command, y.first, y.many)
			mustEnd(t, "the second", d, y.fault)
		}
	}
}

// P10.5: what was refused after a command that was done.
func TestRefusedAfterwards(t *testing.T) {
	d, p := filled(t, 12)
	do(t, d, Write, 2, 3)
	do(t, d, Read, 8, 2)
	set(t, d, Line, 0)
	p.calls = nil
	before := maps.Clone(p.has)
	want := [4]value{valueOf(8), valueOf(9), words[2], words[3]}
	for _, c := range []struct{ command, first, many, fault uint32 }{
		{Read, 12, 1, 2}, {Read, 0, 5, 2}, {Write, 2, 0, 2}, {Write, 11, 2, 2}, {Trim, 10, 3, 2}, {Trim, 2, 5, 2}, {0, 2, 1, 1}, {5, 2, 1, 1},
	} {
		do(t, d, c.command, c.first, c.many)
		mustEnd(t, "refused", d, c.fault)
		mustHold(t, "refused", d, want)
		mustKeep(t, "refused", p, before)
		mustCall(t, "refused", p)
	}
}

// P10.3: what is in the buffer behind a Read can be written elsewhere.
func TestCopy(t *testing.T) {
	d, p := made(12)
	do(t, d, Read, 0, 4)
	do(t, d, Write, 6, 4)
	for i := range 4 {
		if p.has[6+i] != valueOf(i) {
			t.Errorf("sector %d has %v", 6+i, p.has[6+i])
		}
	}
}

// P10.3: a disk whose size changes; each command goes by what it is then.
func TestSizeChanges(t *testing.T) {
	d, p := made(12)
	for _, size := range []int{12, 3, 0, 5, 4} {
		p.size = size
		do(t, d, Read, 0, 4)
		fault := uint32(0)
		if size < 4 {
			fault = 2
		}
		mustEnd(t, "Read", d, fault)
	}
}

// meddler is a disk that sets registers of its device while it is called.
type meddler struct {
	plate
	device *Device
}

func (m *meddler) meddle() {
	m.device.Set(First, math.MaxUint32)
	m.device.Set(Many, math.MaxUint32)
	m.device.Set(Line, 0)
	m.device.Set(Window, 1)
	m.device.Get(Window)
}

func (m *meddler) Sectors() int {
	m.meddle()
	return m.plate.Sectors()
}

func (m *meddler) Read(sector int) ([api.Data]uint32, api.Errno) {
	m.meddle()
	return m.plate.Read(sector)
}

// R1: such a disk doesn't make a call panic, nor lead it to other sectors.
func TestMeddler(t *testing.T) {
	_, p := made(12)
	m := &meddler{plate: *p}
	m.device = New(m)
	do(t, m.device, Read, 3, 4)
	mustGet(t, "Error", m.device, Error, 0)
	mustCall(t, "Read", &m.plate, call{Read, 3, value{}}, call{Read, 4, value{}}, call{Read, 5, value{}}, call{Read, 6, value{}})
}

// slow is a second reading of the chapter, on a disk of its own.
type slow struct {
	first, many, fault, line uint32
	buffer                   [16]uint32
	position                 int
	disk                     *plate
}

func (s *slow) get(reg int) uint32 {
	switch reg {
	case 3:
		if s.fault != 0 {
			return 1 + 2
		}
		return 1
	case 5:
		v := s.buffer[s.position]
		if s.position++; s.position > 15 {
			s.position = 0
		}
		return v
	}
	return map[int]uint32{1: s.first, 2: s.many, 4: s.fault, 6: uint32(s.disk.size), 7: s.line}[reg]
}

func (s *slow) set(reg int, v uint32) {
	switch reg {
	case 0:
		s.command(v)
	case 1:
		s.first = v
	case 2:
		s.many = v
	case 5:
		s.buffer[s.position] = v
		if s.position++; s.position > 15 {
			s.position = 0
		}
	case 7:
		s.line = 0
	}
}

func (s *slow) command(v uint32) {
	s.position, s.line, s.fault = 0, 1, 0
	if v == 0 || v > 4 {
		s.fault = 1
		return
	}
	if v == 4 {
		return
	}
	if s.many == 0 || s.many > 4 || float64(s.first)+float64(s.many) > float64(s.disk.size) {
		s.fault = 2
		return
	}
	at := 0
	for n := int(s.first); n < int(s.first)+int(s.many); n++ {
		if e := s.disk.errors[n]; e != api.OK {
			s.fault = faults[e]
			return
		}
		x := s.disk.has[n]
		for i := range x {
			switch v {
			case 1:
				s.buffer[at] = x[i]
			case 2:
				x[i] = s.buffer[at]
			case 3:
				x[i] = 0
			}
			at++
		}
		s.disk.has[n] = x
	}
}

// P10.1 to P10.5, R4: mixed calls, held against the slow reading.
func TestMixedCalls(t *testing.T) {
	r := rand.New(rand.NewSource(11))
	ends := map[uint32]int{}
	for range 200 {
		size := r.Intn(20)
		d, p := made(size)
		_, copied := made(size)
		s := &slow{disk: copied}
		errors := []api.Errno{api.ErrFull, api.ErrOff, api.ErrWorn}
		for range r.Intn(3) {
			n, e := r.Intn(20), errors[r.Intn(len(errors))]
			p.errors[n], copied.errors[n] = e, e
		}
		for range 500 {
			reg, v := r.Intn(8), uint32(r.Intn(6))
			switch {
			case r.Intn(40) == 0:
				v = -v // around the end
			case reg == First:
				v = uint32(r.Intn(size + 2))
			case reg == Window:
				v = r.Uint32()
			}
			if r.Intn(2) == 0 {
				set(t, d, reg, v)
				s.set(reg, v)
			} else {
				mustGet(t, "mixed", d, reg, s.get(reg))
			}
			for _, reg := range []int{Command, First, Many, Status, Error, Size, Line} {
				mustGet(t, "mixed", d, reg, s.get(reg))
			}
			if d.Up() != (s.line == 1) {
				t.Fatalf("up is %v", d.Up())
			}
			ends[s.fault]++
		}
		for n := range 64 {
			if p.has[n] != copied.has[n] {
				t.Fatalf("sector %d has %v, want %v", n, p.has[n], copied.has[n])
			}
		}
	}
	for fault := range uint32(6) {
		if ends[fault] == 0 {
			t.Errorf("no command ended with Error %d", fault)
		}
	}
}

// drive returns a new driver of all blocks of a chip, over a new flash.
func drive(c *nor.Chip) *driver.Driver {
	return driver.New(cfi.New(c), c.Blocks())
}

// mustFormat returns a new store on a chip.
func mustFormat(t *testing.T, c *nor.Chip) *ftl.Store {
	t.Helper()
	s, e := ftl.Format(drive(c))
	if e != api.OK {
		t.Fatalf("Format: error %d", e)
	}
	return s
}

// P10.2 to P10.4: a store as the disk.
func TestStore(t *testing.T) {
	s := mustFormat(t, nor.New(5, 1000))
	d := New(s)
	mustGet(t, "Size", d, Size, 12)
	for _, v := range words {
		set(t, d, Window, v[:]...)
	}
	do(t, d, Write, 8, 4)
	mustEnd(t, "Write", d, 0)
	do(t, d, Trim, 9, 2)
	mustEnd(t, "Trim", d, 0)
	for n, want := range map[int]value{7: {}, 8: words[0], 9: {}, 10: {}, 11: words[3]} {
		if v, e := s.Read(n); v != want || e != api.OK {
			t.Errorf("sector %d has %v, error %d", n, v, e)
		}
	}
	do(t, d, Read, 8, 4)
	mustEnd(t, "Read", d, 0)
	mustHold(t, "Read", d, [4]value{words[0], {}, {}, words[3]})
}

// P10.3: a store whose power fails between the sectors of a command.
func TestPowerFails(t *testing.T) {
	c := nor.New(5, 1000)
	d := New(mustFormat(t, c))
	for _, v := range words {
		set(t, d, Window, v[:]...)
	}
	c.Fuse(9, 0) // a page has seven words
	do(t, d, Write, 0, 4)
	mustEnd(t, "Write", d, 4)
	do(t, d, Read, 0, 4)
	mustEnd(t, "Read without power", d, 4)
	mustHold(t, "Read without power", d, words)
	c.On()
	s, e := ftl.Mount(drive(c))
	if e != api.OK {
		t.Fatalf("Mount: error %d", e)
	}
	d = New(s)
	do(t, d, Read, 0, 4)
	mustEnd(t, "Read", d, 0)
	mustHold(t, "Read", d, [4]value{words[0]})
}

// P10.3: a store whose blocks wear out is full at last.
func TestStoreIsFull(t *testing.T) {
	d := New(mustFormat(t, nor.New(5, 2)))
	for i := range uint32(1000) {
		do(t, d, Write, i%9, 4)
		if get(t, d, Error) != 0 {
			mustEnd(t, "full", d, 3)
			return
		}
	}
	t.Error("it is never full")
}
