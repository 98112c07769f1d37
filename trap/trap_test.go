package trap

import (
	"math"
	"math/rand"
	"testing"

	"dioptra/api"
	"dioptra/csr"
)

const (
	ones   = 1<<32 - 1
	seed   = 14
	rounds = 50000
)

// privileges are those that a hart has.
var privileges = []int{api.User, api.Super, api.Machine}

// oddPrivileges are those that no hart has.
var oddPrivileges = []int{math.MinInt, -1 << 32, -3, -1, 2, 4, 5, 7, 256, 1 << 32, 1<<32 + 1, math.MaxInt}

// named are the bits of Status that the chapter names.
var named = []uint32{1 << 1, 1 << 3, 1 << 5, 1 << 7, 1 << 8, 1 << 11, 1 << 12, 1 << 17}

// each is a state whose registers all differ; of Status it has just the bits that the chapter does not name.
func each(priv int) State {
	return State{
		File: csr.File{
			Status: 0xfffde655, Medeleg: 0, Mideleg: 0, Mie: 0x44444444, Mip: 0x55555555,
			Mtvec: 0x66666664, Mscratch: 0x77777777, Mepc: 0x88888888, Mcause: 0x99999999, Mtval: 0xaaaaaaaa,
			Stvec: 0xbbbbbbb8, Sscratch: 0xcccccccc, Sepc: 0xdddddddc, Scause: 0xeeeeeeee, Stval: 0x12121212, Satp: 0x23232323,
			Cycle: 0x3434343445454545,
		},
		Priv: priv,
		Pc:   0x80001234,
	}
}

// statuses are all values of the bits that the chapter names, among other bits that are all clear, and all set.
func statuses() []uint32 {
	var list []uint32
	for _, other := range []uint32{0, 0xfffde655} {
		for choice := range 1 << len(named) {
			w := other
			for i, bit := range named {
				if choice>>i&1 == 1 {
					w |= bit
				}
			}
			list = append(list, w)
		}
	}
	return list
}

// bit is 1 if w has the bit of a number, and else 0.
func bit(w uint32, number int) uint32 { return w >> number % 2 }

// with is w in which the bit of a number has a value.
func with(w uint32, number int, value uint32) uint32 {
	return w - bit(w, number)<<number + value<<number
}

// slowTake is a second reading of P14.1 for the privileges that a hart has.
func slowTake(s State, cause, value uint32) State {
	number := int(cause % 32)
	mask, far := s.File.Medeleg, uint32(0)
	if cause >= 1<<31 {
		mask, far = s.File.Mideleg, uint32(number)*4
	}
	if s.Priv < api.Machine && bit(mask, number) == 1 {
		w := with(s.File.Status, 5, bit(s.File.Status, 1))
		s.File.Status = with(with(w, 1, 0), 8, uint32(s.Priv))
		s.File.Scause, s.File.Sepc, s.File.Stval = cause, s.Pc, value
		s.Pc = s.File.Stvec/4*4 + far*bit(s.File.Stvec, 0)
		s.Priv = api.Super
		return s
	}
	w := with(s.File.Status, 7, bit(s.File.Status, 3))
	s.File.Status = with(with(with(w, 3, 0), 11, uint32(s.Priv%2)), 12, uint32(s.Priv/2))
	s.File.Mcause, s.File.Mepc, s.File.Mtval = cause, s.Pc, value
	s.Pc = s.File.Mtvec/4*4 + far*bit(s.File.Mtvec, 0)
	s.Priv = api.Machine
	return s
}

// slowBack is a second reading of P14.2.
func slowBack(s State, machine bool) State {
	w := s.File.Status
	if machine {
		s.Priv = []int{api.User, api.Super, api.User, api.Machine}[bit(w, 12)*2+bit(w, 11)]
		w = with(with(with(with(w, 3, bit(w, 7)), 7, 1), 11, 0), 12, 0)
		s.Pc = s.File.Mepc
	} else {
		s.Priv = []int{api.User, api.Super}[bit(w, 8)]
		w = with(with(with(w, 1, bit(w, 5)), 5, 1), 8, 0)
		s.Pc = s.File.Sepc
	}
	if s.Priv != api.Machine {
		w = with(w, 17, 0)
	}
	s.File.Status = w
	return s
}

// slowPending is a second reading of P14.3.
func slowPending(s State) (uint32, bool) {
	f := s.File
	counts := []bool{
		s.Priv != api.Machine || bit(f.Status, 3) == 1,
		s.Priv == api.User || s.Priv == api.Super && bit(f.Status, 1) == 1,
	}
	for group, is := range counts {
		for _, number := range []int{11, 3, 7, 9, 1, 5} {
			if is && bit(f.Mip, number) == 1 && bit(f.Mie, number) == 1 && bit(f.Mideleg, number) == uint32(group) {
				return 1<<31 + uint32(number), true
			}
		}
	}
	return 0, false
}

// random is a state of any bits, with one of the privileges that a hart has.
func random(r *rand.Rand) State {
	w := func() uint32 {
		if r.Intn(4) == 0 {
			return []uint32{0, ones, 1 << r.Intn(32), ones - 1<<r.Intn(32)}[r.Intn(4)]
		}
		return r.Uint32()
	}
	return State{
		File: csr.File{
			Status: w(), Medeleg: w(), Mideleg: w(), Mie: w(), Mip: w(),
			Mtvec: w(), Mscratch: w(), Mepc: w(), Mcause: w(), Mtval: w(),
			Stvec: w(), Sscratch: w(), Sepc: w(), Scause: w(), Stval: w(), Satp: w(),
			Cycle: r.Uint64(),
		},
		Priv: privileges[r.Intn(len(privileges))],
		Pc:   w(),
	}
}

// randomCause is an interrupt or another cause, with or without bits that its number doesn't have.
func randomCause(r *rand.Rand) uint32 {
	cause := uint32(r.Intn(32) + r.Intn(2)<<31)
	if r.Intn(4) == 0 {
		cause |= r.Uint32() &^ (1 << 31)
	}
	return cause
}

// P14.1: a trap that the machine takes, with all that it changes.
func TestTakeAsMachine(t *testing.T) {
	for _, priv := range privileges {
		for _, cause := range []uint32{0, 8, 15, 31, 1<<31 + 7, 1<<31 + 31, 0x7fffffe9, ones} {
			s := each(priv)
			s.File.Status |= 1 << 3
			want := s
			want.File.Mcause, want.File.Mepc, want.File.Mtval = cause, 0x80001234, 0xfedc
			want.File.Status = 0xfffde6d5 + uint32(priv)<<11
			want.Priv, want.Pc = 3, 0x66666664
			if g := Take(s, cause, 0xfedc); g != want {
				t.Errorf("from %d, cause %x: %+v", priv, cause, g)
			}
		}
	}
}

// P14.1: a trap that the supervisor takes, with all that it changes.
func TestTakeAsSuper(t *testing.T) {
	for _, priv := range privileges[:2] {
		for _, cause := range []uint32{0, 8, 15, 31, 1<<31 + 7, 1<<31 + 31, 0x7fffffe9, ones} {
			s := each(priv)
			s.File.Medeleg, s.File.Mideleg = ones, ones
			s.File.Status |= 1 << 1
			want := s
			want.File.Scause, want.File.Sepc, want.File.Stval = cause, 0x80001234, 0xfedc
			want.File.Status = 0xfffde675 + uint32(priv)<<8
			want.Priv, want.Pc = 1, 0xbbbbbbb8
			if g := Take(s, cause, 0xfedc); g != want {
				t.Errorf("from %d, cause %x: %+v", priv, cause, g)
			}
		}
	}
}

// P14.1: just the bit of the cause's number in just one of the registers delegates, and nothing from Machine.
func TestTakeByDelegation(t *testing.T) {
	for _, priv := range privileges {
		for number := range uint32(32) {
			for _, high := range []uint32{0, 1 << 5, 0x7fffffe0} {
				alone, others := uint32(1)<<number, ^(uint32(1) << number)
				rows := []struct {
					cause, medeleg, mideleg uint32
					to                      int
				}{
					{high + number, alone, 0, api.Super},
					{high + number, alone, ones, api.Super},
					{high + number, others, ones, api.Machine},
					{high + number, 0, 0, api.Machine},
					{high + number + 1<<31, 0, alone, api.Super},
					{high + number + 1<<31, ones, alone, api.Super},
					{high + number + 1<<31, ones, others, api.Machine},
					{high + number + 1<<31, 0, 0, api.Machine},
				}
				for _, r := range rows {
					s := each(priv)
					s.File.Medeleg, s.File.Mideleg = r.medeleg, r.mideleg
					to := r.to
					if priv == api.Machine {
						to = api.Machine
					}
					if g := Take(s, r.cause, 0); g.Priv != to || g != slowTake(s, r.cause, 0) {
						t.Errorf("from %d, %+v: %+v", priv, r, g)
					}
				}
			}
		}
	}
}

// P14.1: where the trap's instructions are, by the vector and the cause, modulo 2^32.
func TestTakeAddress(t *testing.T) {
	rows := []struct {
		vector, cause, pc uint32
	}{
		{0, 0, 0},
		{0, 1 << 31, 0},
		{0x1000, 8, 0x1000},
		{0x1001, 8, 0x1000},
		{0x1002, 8, 0x1000},
		{0x1003, 8, 0x1000},
		{0x1000, 1<<31 + 8, 0x1000},
		{0x1001, 1<<31 + 8, 0x1020},
		{0x1002, 1<<31 + 8, 0x1000},
		{0x1003, 1<<31 + 8, 0x1020},
		{0x1005, 1 << 31, 0x1004},
		{0x1001, 1<<31 + 1, 0x1004},
		{0x1001, 1<<31 + 31, 0x107c},
		{0x1001, 1<<31 + 32, 0x1000},
		{0x1001, ones, 0x107c},
		{0x1001, 1<<31 - 1, 0x1000},
		{ones, ones, 0x78},
		{ones, 1<<31 + 1, 0},
		{0xfffffffd, 1 << 31, 0xfffffffc},
	}
	for _, r := range rows {
		s := each(api.User)
		s.File.Mtvec = r.vector
		if g := Take(s, r.cause, 0); g.Priv != api.Machine || g.Pc != r.pc {
			t.Errorf("machine, %+v: %x", r, g.Pc)
		}
		s = each(api.User)
		s.File.Stvec, s.File.Medeleg, s.File.Mideleg = r.vector, ones, ones
		if g := Take(s, r.cause, 0); g.Priv != api.Super || g.Pc != r.pc {
			t.Errorf("supervisor, %+v: %x", r, g.Pc)
		}
	}
}

// P14.1: every value of the bits of Status, from every privilege.
func TestTakeStatus(t *testing.T) {
	for _, status := range statuses() {
		for _, priv := range privileges {
			for _, delegated := range []uint32{0, ones} {
				s := each(priv)
				s.File.Status, s.File.Medeleg, s.File.Mideleg = status, delegated, delegated
				for _, cause := range []uint32{8, 1<<31 + 5} {
					if g, want := Take(s, cause, 7), slowTake(s, cause, 7); g != want {
						t.Fatalf("status %x from %d, cause %x: %+v, not %+v", status, priv, cause, g, want)
					}
				}
			}
		}
	}
}

// P14.2: rows written by hand, of all that a return changes.
func TestBack(t *testing.T) {
	rows := []struct {
		machine          bool
		status, statusTo uint32
		to               int
	}{
		{true, 0, 0x80, api.User},
		{true, 0x80, 0x88, api.User},
		{true, 0x8, 0x80, api.User},
		{true, 0x800, 0x80, api.Super},
		{true, 0x1000, 0x80, api.User},
		{true, 0x1800, 0x80, api.Machine},
		{true, 0x20000, 0x80, api.User},
		{true, 0x20800, 0x80, api.Super},
		{true, 0x21000, 0x80, api.User},
		{true, 0x21800, 0x20080, api.Machine},
		{true, ones, 0xffffe7ff, api.Machine},
		{true, 0xffffefff, 0xfffde7ff, api.Super},
		{true, 0xfffff7ff, 0xfffde7ff, api.User},
		{true, 0x122, 0x1a2, api.User},
		{false, 0, 0x20, api.User},
		{false, 0x20, 0x22, api.User},
		{false, 0x2, 0x20, api.User},
		{false, 0x100, 0x20, api.Super},
		{false, 0x20000, 0x20, api.User},
		{false, 0x21900, 0x1820, api.Super},
		{false, ones, 0xfffdfeff, api.Super},
		{false, 0xfffffeff, 0xfffdfeff, api.User},
		{false, 0x1888, 0x18a8, api.User},
	}
	for _, r := range rows {
		for _, priv := range privileges {
			s := each(priv)
			s.File.Status = r.status
			want := s
			want.File.Status, want.Priv, want.Pc = r.statusTo, r.to, 0xdddddddc
			if r.machine {
				want.Pc = 0x88888888
			}
			if g := Back(s, r.machine); g != want {
				t.Errorf("%v, status %x, from %d: %+v", r.machine, r.status, priv, g)
			}
		}
	}
}

// P14.2: every value of the bits of Status, and addresses that no instruction has.
func TestBackOfEachStatus(t *testing.T) {
	for _, status := range statuses() {
		for _, priv := range privileges {
			for _, pc := range []uint32{0, 1, 2, 3, ones} {
				s := each(priv)
				s.File.Status, s.File.Mepc, s.File.Sepc = status, pc, ^pc
				for _, machine := range []bool{false, true} {
					if g, want := Back(s, machine), slowBack(s, machine); g != want {
						t.Fatalf("%v, status %x, from %d: %+v, not %+v", machine, status, priv, g, want)
					}
				}
			}
		}
	}
}

// P14.3: rows written by hand.
func TestPending(t *testing.T) {
	const none = 0
	rows := []struct {
		priv                      int
		status, mip, mie, mideleg uint32
		cause                     uint32
	}{
		{api.User, 0, 0, 0, 0, none},
		{api.User, 0, ones, 0, 0, none},
		{api.User, 0, 0, ones, 0, none},
		{api.User, 0, 0x555, 0xaaa, 0, none},
		{api.User, 0, ones, ones, 0, 0x8000000b},
		{api.User, 0, ones, ones, ones, 0x8000000b},
		{api.Super, 0, ones, ones, 0, 0x8000000b},
		{api.Super, 1 << 3, ones, ones, ones, none},
		{api.Super, 1 << 1, ones, ones, ones, 0x8000000b},
		{api.Machine, 1 << 1, ones, ones, 0, none},
		{api.Machine, 1 << 3, ones, ones, 0, 0x8000000b},
		{api.Machine, 1<<3 + 1<<1, ones, ones, ones, none},
		{api.Machine, 0xfffffff7, ones, ones, 0, none},
		{api.Super, 0xfffffffd, ones, ones, ones, none},
		{api.User, 0, 0x7ff, ones, 0, 0x80000003},
		{api.User, 0, 0x7f7, ones, 0, 0x80000007},
		{api.User, 0, 0x777, ones, 0, 0x80000009},
		{api.User, 0, 0x577, ones, 0, 0x80000001},
		{api.User, 0, 0x575, ones, 0, 0x80000005},
		{api.User, 0, 0xfffff555, ones, 0, none},
		{api.User, 0, 0xfffff555, ones, ones, none},
		{api.User, 0, 0x822, ones, 0x800, 0x80000001},
		{api.User, 0, 0x820, ones, 0x820, 0x8000000b},
		{api.User, 0, 0xfffff575, ones, 0x20, 0x80000005},
		{api.Super, 0, 0x820, ones, 0x800, 0x80000005},
		{api.Super, 0, 0x820, ones, 0x820, none},
		{api.Super, 1 << 1, 0x820, 0x020, 0x820, 0x80000005},
		{api.Machine, 1 << 3, 0x820, ones, 0x800, 0x80000005},
		{api.Machine, 1<<3 + 1<<1, 0x800, ones, 0x800, none},
	}
	for i, r := range rows {
		s := each(r.priv)
		s.File.Status, s.File.Mip, s.File.Mie, s.File.Mideleg = r.status, r.mip, r.mie, r.mideleg
		if cause, is := Pending(s); cause != r.cause || is != (r.cause != none) {
			t.Errorf("number %d: %x, %v", i, cause, is)
		}
	}
}

// P14.3: all sets of the interrupts that are waiting, and of those that are delegated.
func TestPendingOfEachSet(t *testing.T) {
	numbers := []int{1, 3, 5, 7, 9, 11, 0, 31}
	set := func(choice int) uint32 {
		var w uint32
		for i, number := range numbers {
			w += uint32(choice>>i%2) << number
		}
		return w
	}
	for waiting := range 1 << len(numbers) {
		for delegated := range 1 << len(numbers) {
			for choice := range 12 {
				s := State{Priv: privileges[choice%3]}
				s.File.Status = uint32(choice/3%2<<1 + choice/6<<3)
				s.File.Mip, s.File.Mie, s.File.Mideleg = set(waiting), ones, set(delegated)
				if delegated%2 == 0 {
					s.File.Mip, s.File.Mie = s.File.Mie, s.File.Mip
				}
				cause, is := Pending(s)
				if want, wantIs := slowPending(s); cause != want || is != wantIs {
					t.Fatalf("%+v: %x, %v, not %x, %v", s, cause, is, want, wantIs)
				}
			}
		}
	}
}

// P14.4: the return from a trap, by the privilege that took it, gives back what the trap took.
func TestThereAndBack(t *testing.T) {
	r := rand.New(rand.NewSource(seed))
	for range rounds {
		s, cause := random(r), randomCause(r)
		taken := Take(s, cause, r.Uint32())
		machine, enabled := taken.Priv == api.Machine, 1
		if machine {
			enabled = 3
		}
		back := Back(taken, machine)
		if back.Pc != s.Pc || back.Priv != s.Priv || bit(back.File.Status, enabled) != bit(s.File.Status, enabled) {
			t.Fatalf("%+v, cause %x: back to %+v", s, cause, back)
		}
	}
}

// P14.4: an interrupt that was taken isn't pending at once, though it waits on.
func TestTakenInterrupt(t *testing.T) {
	r := rand.New(rand.NewSource(seed + 1))
	count := 0
	for range rounds {
		s := random(r)
		cause, is := Pending(s)
		if !is {
			continue
		}
		count++
		taken := Take(s, cause, 0)
		if again, still := Pending(taken); still && again == cause {
			t.Fatalf("%+v: %x again", s, cause)
		}
		if back, is := Pending(Back(taken, taken.Priv == api.Machine)); back != cause || !is {
			t.Fatalf("%+v: %x, and after the return %x, %v", s, cause, back, is)
		}
	}
	if count < rounds/10 {
		t.Errorf("only %d interrupts", count)
	}
}

// P14.1 to P14.3: states of any bits, held against the second reading.
func TestMixedCalls(t *testing.T) {
	r := rand.New(rand.NewSource(seed + 2))
	for range rounds {
		s, cause, value := random(r), randomCause(r), r.Uint32()
		if g, want := Take(s, cause, value), slowTake(s, cause, value); g != want {
			t.Fatalf("Take of %+v, %x, %x: %+v, not %+v", s, cause, value, g, want)
		}
		for _, machine := range []bool{false, true} {
			if g, want := Back(s, machine), slowBack(s, machine); g != want {
				t.Fatalf("Back of %+v, %v: %+v, not %+v", s, machine, g, want)
			}
		}
		got, is := Pending(s)
		if want, wantIs := slowPending(s); got != want || is != wantIs {
			t.Fatalf("Pending of %+v: %x, %v, not %x, %v", s, got, is, want, wantIs)
		}
	}
}

// Long runs of traps and returns, each call from where the last one led, held against the second reading.
func TestRuns(t *testing.T) {
	r := rand.New(rand.NewSource(seed + 3))
	for range rounds / 100 {
		s := random(r)
		want := s
		for range 100 {
			cause, value, machine := randomCause(r), r.Uint32(), r.Intn(2) == 0
			if r.Intn(2) == 0 {
				s, want = Take(s, cause, value), slowTake(want, cause, value)
			} else {
				s, want = Back(s, machine), slowBack(want, machine)
			}
			if s != want {
				t.Fatalf("%+v, not %+v", s, want)
			}
		}
	}
}

// Calls with privileges that no hart has end, and don't panic; what a trap leads to is a privilege that a hart has.
func TestOddPrivileges(t *testing.T) {
	r := rand.New(rand.NewSource(seed + 4))
	for range rounds / 100 {
		for _, priv := range oddPrivileges {
			s := random(r)
			s.Priv = priv
			if g := Take(s, randomCause(r), r.Uint32()); g.Priv != api.Super && g.Priv != api.Machine {
				t.Fatalf("Take from %d: %+v", priv, g)
			}
			for _, machine := range []bool{false, true} {
				if g, want := Back(s, machine), slowBack(s, machine); g != want {
					t.Fatalf("Back from %d: %+v, not %+v", priv, g, want)
				}
			}
			if cause, is := Pending(s); is != (cause != 0) {
				t.Fatalf("Pending from %d: %x, %v", priv, cause, is)
			}
		}
	}
}

// The chapter's example.
func TestExample(t *testing.T) {
	g := Take(State{Priv: api.User, Pc: 0x40}, api.CallUser, 0)
	if g != (State{File: csr.File{Mepc: 0x40, Mcause: 8}, Priv: api.Machine}) {
		t.Errorf("%+v", g)
	}
}
