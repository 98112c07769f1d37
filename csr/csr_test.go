package csr

import (
	"math"
	"math/rand"
	"slices"
	"testing"
)

const (
	ones   = 1<<32 - 1
	super  = 1
	mach   = 3
	seed   = 13
	rounds = 20000
)

// numbers are the registers, as the chapter lists them.
var numbers = []int{
	0x100, 0x104, 0x105, 0x140, 0x141, 0x142, 0x143, 0x144, 0x180,
	0x300, 0x301, 0x302, 0x303, 0x304, 0x305, 0x340, 0x341, 0x342, 0x343, 0x344,
	0xb00, 0xb80, 0xc00, 0xc80, 0xf11, 0xf12, 0xf13, 0xf14,
}

// fixed are the registers that are never written.
var fixed = []int{0xc00, 0xc80, 0xf11, 0xf12, 0xf13, 0xf14}

// views are pairs of registers that show the same bits.
var views = [][]int{{0x100, 0x300}, {0x104, 0x304}, {0x144, 0x344}, {0xb00, 0xc00}, {0xb80, 0xc80}}

// oddNumbers are numbers of no register, beside those from -5000 to 70000.
var oddNumbers = []int{
	math.MinInt, math.MinInt + 0x300, math.MaxInt, 1<<31 + 0x100, 1<<32 + 0x300, 1<<32 + 0xc00, 1<<62 + 0x140, -1<<32 + 0x342,
}

// privileges are those that a hart has, and others.
var privileges = []int{math.MinInt, -1 << 32, -4, -3, -1, 0, 1, 2, 3, 4, 5, 256, 1<<32 + 1, math.MaxInt}

// words are values at the ends of what the masks tell apart.
var words = []uint32{
	0, 1, 2, 3, 4, 8, 0x80, 0x100, 0x122, 0x222, 0x800, 0x888, 0xaaa, 0x1000, 0x1800, 0x1808, 0xb3ff, 0x19aa,
	0x000c0122, 0x000e19aa, 0xfff1e655, 0xfff1f655, 0x12345678, 0x40141101, 0x55555555, 0x7fffffff, 0x80000000, 0xaaaaaaaa,
	0xffff4c00, ones - 0x1800, ones - 0x1000, ones - 0x800, ones - 3, ones - 2, ones - 1, ones,
}

// each is a file whose fields all differ.
func each() File {
	return File{
		Status: 0x11111111, Medeleg: 0x22222222, Mideleg: 0x33333333, Mie: 0x44444444, Mip: 0x55555555,
		Mtvec: 0x66666666, Mscratch: 0x77777777, Mepc: 0x88888888, Mcause: 0x99999999, Mtval: 0xaaaaaaaa,
		Stvec: 0xbbbbbbbb, Sscratch: 0xcccccccc, Sepc: 0xdddddddd, Scause: 0xeeeeeeee, Stval: 0x12121212, Satp: 0x23232323,
		Cycle: 0x3434343445454545,
	}
}

// full is a file whose bits are all set.
func full() File {
	return File{
		Status: ones, Medeleg: ones, Mideleg: ones, Mie: ones, Mip: ones,
		Mtvec: ones, Mscratch: ones, Mepc: ones, Mcause: ones, Mtval: ones,
		Stvec: ones, Sscratch: ones, Sepc: ones, Scause: ones, Stval: ones, Satp: ones,
		Cycle: 1<<64 - 1,
	}
}

// random is a file of any bits, or of those that are at the ends.
func random(r *rand.Rand) File {
	w := func() uint32 {
		if r.Intn(2) == 0 {
			return words[r.Intn(len(words))]
		}
		return r.Uint32()
	}
	return File{
		Status: w(), Medeleg: w(), Mideleg: w(), Mie: w(), Mip: w(),
		Mtvec: w(), Mscratch: w(), Mepc: w(), Mcause: w(), Mtval: w(),
		Stvec: w(), Sscratch: w(), Sepc: w(), Scause: w(), Stval: w(), Satp: w(),
		Cycle: uint64(w())<<32 + uint64(w()),
	}
}

// mustRead is what a register says, from the highest privilege.
func mustRead(t *testing.T, f File, num int) uint32 {
	t.Helper()
	v, is := Read(f, num, mach)
	if !is {
		t.Fatalf("register %x can't be read", num)
	}
	return v
}

// mustWrite is f after a write from the highest privilege.
func mustWrite(t *testing.T, f File, num int, v uint32) File {
	t.Helper()
	g, is := Write(f, num, mach, v)
	if !is {
		t.Fatalf("register %x can't be written", num)
	}
	return g
}

// P13.1: what each register says, each field being another word.
func TestReadOfEachRegister(t *testing.T) {
	want := map[int]uint32{
		0x100: 0x00000100, 0x104: 0x00000000, 0x105: 0xbbbbbbbb, 0x140: 0xcccccccc, 0x141: 0xdddddddd,
		0x142: 0xeeeeeeee, 0x143: 0x12121212, 0x144: 0x11111111, 0x180: 0x23232323,
		0x300: 0x11111111, 0x301: 0x40141101, 0x302: 0x22222222, 0x303: 0x33333333, 0x304: 0x44444444, 0x305: 0x66666666,
		0x340: 0x77777777, 0x341: 0x88888888, 0x342: 0x99999999, 0x343: 0xaaaaaaaa, 0x344: 0x55555555,
		0xb00: 0x45454545, 0xb80: 0x34343434, 0xc00: 0x45454545, 0xc80: 0x34343434,
		0xf11: 0, 0xf12: 0, 0xf13: 0, 0xf14: 0,
	}
	if len(want) != len(numbers) {
		t.Fatalf("%d registers of %d", len(want), len(numbers))
	}
	for num, w := range want {
		if v := mustRead(t, each(), num); v != w {
			t.Errorf("register %x: %x, not %x", num, v, w)
		}
	}
}

// P13.1: what each register says where every bit is set, and where none is.
func TestReadOfAllBits(t *testing.T) {
	for _, num := range numbers {
		want, none := uint32(ones), uint32(0)
		switch num {
		case 0x100:
			want = 0x000c0122
		case 0x301:
			want, none = 0x40141101, 0x40141101
		case 0xf11, 0xf12, 0xf13, 0xf14:
			want = 0
		}
		if v := mustRead(t, full(), num); v != want {
			t.Errorf("register %x of set bits: %x", num, v)
		}
		if v := mustRead(t, File{}, num); v != none {
			t.Errorf("register %x of clear bits: %x", num, v)
		}
	}
}

// P13.1: the mask of sie and sip is Mideleg, bit by bit.
func TestReadThroughMideleg(t *testing.T) {
	for _, mask := range append(bitsOf(), words...) {
		for _, w := range append(bitsOf(), words...) {
			f := File{Mideleg: mask, Mie: w, Mip: ^w}
			if v := mustRead(t, f, 0x104); v != w&mask {
				t.Fatalf("sie of %x by %x: %x", w, mask, v)
			}
			if v := mustRead(t, f, 0x144); v != ^w&mask {
				t.Fatalf("sip of %x by %x: %x", ^w, mask, v)
			}
		}
	}
}

// bitsOf lists the words of one bit.
func bitsOf() []uint32 {
	var l []uint32
	for i := range 32 {
		l = append(l, 1<<i)
	}
	return l
}

// may reports whether a privilege reads a number: by the chapter's list, and by the third digit of the number.
func may(num, priv int) bool {
	if !slices.Contains(numbers, num) {
		return false
	}
	switch num / 0x100 {
	case 0xc:
		return priv >= 0
	case 0x1:
		return priv >= 1
	}
	return priv >= 3
}

// P13.1 and P13.2: which numbers can be read and written from where; a refused call gives 0, or f as it was.
func TestNumbersAndPrivileges(t *testing.T) {
	f := each()
	check := func(num, priv int) {
		v, is := Read(f, num, priv)
		if is != may(num, priv) || !is && v != 0 {
			t.Errorf("Read of %x from %d: %x, %v", num, priv, v, is)
		}
		g, is := Write(f, num, priv, 0x5a5a5a5a)
		if is != (may(num, priv) && !slices.Contains(fixed, num)) || !is && g != f {
			t.Errorf("Write of %x from %d: %v", num, priv, is)
		}
	}
	for _, priv := range privileges {
		for num := -5000; num <= 70000; num++ {
			check(num, priv)
		}
		for _, num := range oddNumbers {
			check(num, priv)
		}
	}
}

// P13.1 and P13.2: the privilege that asks changes nothing but whether it may.
func TestPrivilegesSeeTheSame(t *testing.T) {
	for _, num := range numbers {
		for _, priv := range privileges {
			if v, is := Read(each(), num, priv); is && v != mustRead(t, each(), num) {
				t.Errorf("register %x from %d: %x", num, priv, v)
			}
			if g, is := Write(each(), num, priv, 0x0f0f0f0f); is && g != mustWrite(t, each(), num, 0x0f0f0f0f) {
				t.Errorf("register %x written from %d", num, priv)
			}
		}
	}
}

// P13.2: each register, where no bit was set and all are written.
func TestWriteOfSetBits(t *testing.T) {
	want := map[int]File{
		0x100: {Status: 0x000c0122}, 0x104: {}, 0x105: {Stvec: 0xfffffffd}, 0x140: {Sscratch: ones}, 0x141: {Sepc: 0xfffffffc},
		0x142: {Scause: ones}, 0x143: {Stval: ones}, 0x144: {}, 0x180: {Satp: ones},
		0x300: {Status: 0x000e19aa}, 0x301: {}, 0x302: {Medeleg: 0xb3ff}, 0x303: {Mideleg: 0x222}, 0x304: {Mie: 0xaaa},
		0x305: {Mtvec: 0xfffffffd}, 0x340: {Mscratch: ones}, 0x341: {Mepc: 0xfffffffc}, 0x342: {Mcause: ones}, 0x343: {Mtval: ones},
		0x344: {Mip: 0x222}, 0xb00: {Cycle: 0x00000000ffffffff}, 0xb80: {Cycle: 0xffffffff00000000},
	}
	if len(want)+len(fixed) != len(numbers) {
		t.Fatalf("%d registers of %d", len(want), len(numbers))
	}
	for num, g := range want {
		if h := mustWrite(t, File{}, num, ones); h != g {
			t.Errorf("register %x: %+v", num, h)
		}
	}
}

// P13.2: each register, where all bits were set and none is written.
func TestWriteOfClearBits(t *testing.T) {
	changes := map[int]func(f *File){
		0x100: func(f *File) { f.Status = 0xfff3fedd },
		0x104: func(f *File) { f.Mie = 0 },
		0x105: func(f *File) { f.Stvec = 0 },
		0x140: func(f *File) { f.Sscratch = 0 },
		0x141: func(f *File) { f.Sepc = 0 },
		0x142: func(f *File) { f.Scause = 0 },
		0x143: func(f *File) { f.Stval = 0 },
		0x144: func(f *File) { f.Mip = 0xfffffffd },
		0x180: func(f *File) { f.Satp = 0 },
		0x300: func(f *File) { f.Status = 0xfff1e655 },
		0x301: func(f *File) {},
		0x302: func(f *File) { f.Medeleg = 0xffff4c00 },
		0x303: func(f *File) { f.Mideleg = 0xfffffddd },
		0x304: func(f *File) { f.Mie = 0xfffff555 },
		0x305: func(f *File) { f.Mtvec = 0 },
		0x340: func(f *File) { f.Mscratch = 0 },
		0x341: func(f *File) { f.Mepc = 0 },
		0x342: func(f *File) { f.Mcause = 0 },
		0x343: func(f *File) { f.Mtval = 0 },
		0x344: func(f *File) { f.Mip = 0xfffffddd },
		0xb00: func(f *File) { f.Cycle = 0xffffffff00000000 },
		0xb80: func(f *File) { f.Cycle = 0x00000000ffffffff },
	}
	if len(changes)+len(fixed) != len(numbers) {
		t.Fatalf("%d registers of %d", len(changes), len(numbers))
	}
	for num, change := range changes {
		want := full()
		change(&want)
		if h := mustWrite(t, full(), num, 0); h != want {
			t.Errorf("register %x: %+v", num, h)
		}
	}
}

// P13.2: bits 11 and 12 of mstatus take every value but 2, whatever they were, and sstatus leaves them.
func TestWriteOfThePrivilegeInStatus(t *testing.T) {
	for was := range uint32(4) {
		for v, want := range []uint32{0, 1, 0, 3} {
			f := File{Status: was<<11 | 1<<30}
			g := mustWrite(t, f, 0x300, uint32(v)<<11|1<<7|1<<31)
			if g.Status != want<<11|1<<7|1<<30 {
				t.Errorf("mstatus, %d after %d: %x", v, was, g.Status)
			}
			g = mustWrite(t, f, 0x100, uint32(v)<<11|1<<5)
			if g.Status != was<<11|1<<5|1<<30 {
				t.Errorf("sstatus, %d after %d: %x", v, was, g.Status)
			}
		}
	}
}

// P13.2: sie is written by the mask Mideleg, and of sip bit 1 alone, if Mideleg has it.
func TestWriteThroughMideleg(t *testing.T) {
	rows := []struct {
		mideleg, was, v, sie, sip uint32
	}{
		{0, 0, ones, 0, 0},
		{0, ones, 0, ones, ones},
		{0x222, 0, ones, 0x222, 2},
		{0x222, ones, 0, 0xfffffddd, 0xfffffffd},
		{0x220, 0, ones, 0x220, 0},
		{0x220, ones, 0, 0xfffffddf, ones},
		{2, 0xaa0, 0x222, 0xaa2, 0xaa2},
		{2, 0xaa2, 0xaa8, 0xaa0, 0xaa0},
		{ones, 0x12345678, 0x8000000a, 0x8000000a, 0x1234567a},
	}
	for _, r := range rows {
		f := File{Mideleg: r.mideleg, Mie: r.was, Mip: r.was}
		if g := mustWrite(t, f, 0x104, r.v); g != (File{Mideleg: r.mideleg, Mie: r.sie, Mip: r.was}) {
			t.Errorf("sie, %+v: %x", r, g.Mie)
		}
		if g := mustWrite(t, f, 0x144, r.v); g != (File{Mideleg: r.mideleg, Mie: r.was, Mip: r.sip}) {
			t.Errorf("sip, %+v: %x", r, g.Mip)
		}
	}
}

// P13.2: addresses lose bits also where the register had them.
func TestWriteOfAddresses(t *testing.T) {
	for low, v := range []struct{ vector, pc uint32 }{{0, 0}, {1, 0}, {0, 0}, {1, 0}} {
		for _, f := range []File{{}, full()} {
			w := 0x80001230 | uint32(low)
			stvec, mtvec := mustWrite(t, f, 0x105, w).Stvec, mustWrite(t, f, 0x305, w).Mtvec
			if stvec != 0x80001230|v.vector || mtvec != stvec {
				t.Errorf("stvec and mtvec of %x: %x, %x", w, stvec, mtvec)
			}
			sepc, mepc := mustWrite(t, f, 0x141, w).Sepc, mustWrite(t, f, 0x341, w).Mepc
			if sepc != 0x80001230 || mepc != sepc {
				t.Errorf("sepc and mepc of %x: %x, %x", w, sepc, mepc)
			}
		}
	}
}

// P13.2: the halves of Cycle.
func TestWriteOfCycle(t *testing.T) {
	f := File{Cycle: 0x0123456789abcdef}
	if g := mustWrite(t, f, 0xb00, 0x76543210); g != (File{Cycle: 0x0123456776543210}) {
		t.Errorf("mcycle: %x", g.Cycle)
	}
	if g := mustWrite(t, f, 0xb80, 0xfedcba98); g != (File{Cycle: 0xfedcba9889abcdef}) {
		t.Errorf("mcycleh: %x", g.Cycle)
	}
	if g, is := Write(f, 0xc00, mach, 1); is || g != f {
		t.Errorf("cycle: %x, %v", g.Cycle, is)
	}
	if g, is := Write(f, 0xc80, mach, 1); is || g != f {
		t.Errorf("cycleh: %x, %v", g.Cycle, is)
	}
}

// P13.3: each bit of lines and of Mip, and nothing else.
func TestLines(t *testing.T) {
	for _, mip := range append(bitsOf(), words...) {
		for _, lines := range append(bitsOf(), words...) {
			f := each()
			f.Mip = mip
			want := f
			want.Mip = 0
			for i := range 32 {
				from := mip
				if i == 3 || i == 7 || i == 11 {
					from = lines
				}
				want.Mip += from >> i & 1 << i
			}
			if g := Lines(f, lines); g != want {
				t.Fatalf("Lines of %x with %x: %x", mip, lines, g.Mip)
			}
		}
	}
	if g := Lines(File{}, ones); g != (File{Mip: 0x888}) {
		t.Errorf("all lines: %+v", g)
	}
	if g := Lines(File{Mip: ones}, 0); g != (File{Mip: 0xfffff777}) {
		t.Errorf("no lines: %+v", g)
	}
}

// related reports whether a write to one register may change what another one says: a view of it, or one whose mask it is.
func related(written, other int) bool {
	if written == other || written == 0x303 && (other == 0x104 || other == 0x144) {
		return true
	}
	return slices.ContainsFunc(views, func(pair []int) bool { return slices.Contains(pair, written) && slices.Contains(pair, other) })
}

// P13.4: a write leaves the other registers, and writing what is read after it changes nothing.
func TestApart(t *testing.T) {
	r := rand.New(rand.NewSource(seed))
	for range rounds {
		f, v := random(r), words[r.Intn(len(words))]
		if r.Intn(2) == 0 {
			v = r.Uint32()
		}
		num := numbers[r.Intn(len(numbers))]
		g, is := Write(f, num, mach, v)
		for _, other := range numbers {
			if !related(num, other) && mustRead(t, f, other) != mustRead(t, g, other) {
				t.Fatalf("%x written to %x changes %x", v, num, other)
			}
		}
		if again, same := Write(g, num, mach, mustRead(t, g, num)); again != g || same != is {
			t.Fatalf("register %x, %x and then what is read: %+v, not %+v", num, v, again, g)
		}
	}
}

// place is a bit of a file that a bit of a register stands for.
type place struct {
	word     func(f *File) *uint32
	readable func(f File) uint32
	writable func(f File) uint32
}

func always(w uint32) func(f File) uint32 { return func(File) uint32 { return w } }

// places is a second reading of the chapter's table for the registers that show a word: which word, and which of its bits.
func places() map[int]place {
	status := func(f *File) *uint32 { return &f.Status }
	enabled := func(f *File) *uint32 { return &f.Mie }
	waiting := func(f *File) *uint32 { return &f.Mip }
	delegated := func(f File) uint32 { return f.Mideleg }
	whole := func(word func(f *File) *uint32) place { return place{word, always(ones), always(ones)} }
	return map[int]place{
		0x100: {status, always(0x000c0122), always(0x000c0122)},
		0x104: {enabled, delegated, delegated},
		0x105: whole(func(f *File) *uint32 { return &f.Stvec }),
		0x140: whole(func(f *File) *uint32 { return &f.Sscratch }),
		0x141: whole(func(f *File) *uint32 { return &f.Sepc }),
		0x142: whole(func(f *File) *uint32 { return &f.Scause }),
		0x143: whole(func(f *File) *uint32 { return &f.Stval }),
		0x144: {waiting, delegated, func(f File) uint32 { return f.Mideleg % 4 / 2 * 2 }},
		0x180: whole(func(f *File) *uint32 { return &f.Satp }),
		0x300: {status, always(ones), always(0x000e19aa)},
		0x302: {func(f *File) *uint32 { return &f.Medeleg }, always(ones), always(0xb3ff)},
		0x303: {func(f *File) *uint32 { return &f.Mideleg }, always(ones), always(0x222)},
		0x304: {enabled, always(ones), always(0xaaa)},
		0x305: whole(func(f *File) *uint32 { return &f.Mtvec }),
		0x340: whole(func(f *File) *uint32 { return &f.Mscratch }),
		0x341: whole(func(f *File) *uint32 { return &f.Mepc }),
		0x342: whole(func(f *File) *uint32 { return &f.Mcause }),
		0x343: whole(func(f *File) *uint32 { return &f.Mtval }),
		0x344: {waiting, always(ones), always(0x222)},
	}
}

// slowWrite is what a word becomes, bit by bit.
func slowWrite(num int, old, mask, v uint32) uint32 {
	if num == 0x300 && v>>12&1 == 1 && v>>11&1 == 0 {
		v -= 1 << 12
	}
	if num == 0x105 || num == 0x305 {
		v -= v / 2 % 2 * 2
	}
	if num == 0x141 || num == 0x341 {
		v -= v % 4
	}
	var w uint32
	for i := range 32 {
		from := old
		if mask>>i&1 == 1 {
			from = v
		}
		w += from >> i & 1 << i
	}
	return w
}

// P13.1 and P13.2: long runs of reads and writes, held against the second reading.
func TestMixedCalls(t *testing.T) {
	r := rand.New(rand.NewSource(seed + 1))
	table := places()
	for round := range rounds {
		f := random(r)
		num := numbers[round%len(numbers)]
		p, is := table[num]
		if !is {
			continue
		}
		v := words[r.Intn(len(words))]
		if r.Intn(2) == 0 {
			v = r.Uint32()
		}
		var read uint32
		for i := range 32 {
			read += *p.word(&f) >> i & (p.readable(f) >> i & 1) << i
		}
		if got := mustRead(t, f, num); got != read {
			t.Fatalf("register %x of %+v: %x, not %x", num, f, got, read)
		}
		want := f
		*p.word(&want) = slowWrite(num, *p.word(&f), p.writable(f), v)
		if g := mustWrite(t, f, num, v); g != want {
			t.Fatalf("%x written to %x of %+v: %+v", v, num, f, g)
		}
	}
}

// The chapter's examples.
func TestExamples(t *testing.T) {
	if v, is := Read(each(), 0x301, 3); v != 0x40141101 || !is {
		t.Errorf("misa: %x, %v", v, is)
	}
	if v, is := Read(each(), 0x300, super); v != 0 || is {
		t.Errorf("mstatus from below: %x, %v", v, is)
	}
}
