package alu

import (
	"math"
	"math/big"
	"math/rand"
	"slices"
	"testing"

	"dioptra/decode"
)

const (
	least = 1 << 31     // the lowest signed number
	most  = 1<<31 - 1   // the greatest signed number
	ones  = 1<<32 - 1   // -1
	two   = 1<<32 - 2   // -2
	seven = 1<<32 - 7   // -7
	left  = 0x8765_4321 // bits that no half repeats
)

// Names as the chapter lists them, in its order.
var (
	doNames = []int{
		decode.Add, decode.Addi, decode.Sub, decode.Sll, decode.Slli, decode.Srl, decode.Srli, decode.Sra, decode.Srai,
		decode.Slt, decode.Slti, decode.Sltu, decode.Sltiu,
		decode.Xor, decode.Xori, decode.Or, decode.Ori, decode.And, decode.Andi,
		decode.Mul, decode.Mulh, decode.Mulhsu, decode.Mulhu, decode.Div, decode.Divu, decode.Rem, decode.Remu,
	}
	branchNames = []int{decode.Beq, decode.Bne, decode.Blt, decode.Bge, decode.Bltu, decode.Bgeu}
	amoNames    = []int{
		decode.Amoswap, decode.Amoadd, decode.Amoxor, decode.Amoand, decode.Amoor,
		decode.Amomin, decode.Amomax, decode.Amominu, decode.Amomaxu,
	}
	loadNames = []int{decode.Lb, decode.Lh, decode.Lbu, decode.Lhu, decode.Lw}
)

// numbers are words at the ends of what the operations tell apart.
var numbers = []uint32{
	0, 1, 2, 3, 7, 15, 16, 30, 31, 32, 33, 63, 64, 0x7f, 0x80, 0xff, 0x100, 0x180, 0x7fff, 0x8000, 0xffff, 0x1_0000, 0x1_8000,
	0x00ff_00ff, 0x1234_5678, 0x4000_0000, 0x5555_5555, most - 1, most, least, least + 1, left,
	0xaaaa_aaaa, 0xc000_0000, 0xffff_0000, 0xffff_7fff, 0xffff_8000, 0xffff_ff7f, 0xffff_ff80, seven, two, ones,
}

// everyName is each number of decode's table, and numbers that it doesn't have.
func everyName() []int {
	names := []int{
		math.MinInt, math.MinInt + decode.Add, math.MaxInt, 1 << 31, 1 << 32,
		1<<32 + decode.Add, 1<<32 + decode.Beq, 1<<32 + decode.Amoadd, 1<<32 + decode.Lw, 256 + decode.Add, 128 + decode.Lw,
	}
	for name := -80; name <= 160; name++ {
		names = append(names, name)
	}
	return names
}

// unsignedOf and signedOf are the number that a word is; wordOf is a number modulo 2^32.
func unsignedOf(w uint32) *big.Int { return big.NewInt(int64(w)) }

func signedOf(w uint32) *big.Int {
	n := unsignedOf(w)
	if w>>31 == 1 {
		n.Sub(n, big.NewInt(1<<32))
	}
	return n
}

func wordOf(n *big.Int) uint32 {
	return uint32(new(big.Int).And(n, big.NewInt(ones)).Uint64())
}

// fold makes a word of two, bit by bit.
func fold(a, b uint32, bit func(a, b bool) bool) uint32 {
	var w uint32
	for i := range 32 {
		if bit(a>>i&1 == 1, b>>i&1 == 1) {
			w += 1 << i
		}
	}
	return w
}

func oneIf(holds bool) uint32 {
	if holds {
		return 1
	}
	return 0
}

// slowDo is a second reading of P12.1, by numbers without bounds.
func slowDo(name int, a, b uint32) uint32 {
	sa, sb, ua, ub := signedOf(a), signedOf(b), unsignedOf(a), unsignedOf(b)
	by := uint(new(big.Int).Mod(ub, big.NewInt(32)).Uint64())
	n := new(big.Int)
	switch name {
	case decode.Add, decode.Addi:
		return wordOf(n.Add(ua, ub))
	case decode.Sub:
		return wordOf(n.Sub(ua, ub))
	case decode.Sll, decode.Slli:
		return wordOf(n.Lsh(ua, by))
	case decode.Srl, decode.Srli:
		return wordOf(n.Rsh(ua, by))
	case decode.Sra, decode.Srai:
		return wordOf(n.Rsh(sa, by))
	case decode.Slt, decode.Slti:
		return oneIf(sa.Cmp(sb) < 0)
	case decode.Sltu, decode.Sltiu:
		return oneIf(ua.Cmp(ub) < 0)
	case decode.Xor, decode.Xori:
		return fold(a, b, func(a, b bool) bool { return a != b })
	case decode.Or, decode.Ori:
		return fold(a, b, func(a, b bool) bool { return a || b })
	case decode.And, decode.Andi:
		return fold(a, b, func(a, b bool) bool { return a && b })
	case decode.Mul:
		return wordOf(n.Mul(ua, ub))
	case decode.Mulh:
		return wordOf(n.Rsh(n.Mul(sa, sb), 32))
	case decode.Mulhsu:
		return wordOf(n.Rsh(n.Mul(sa, ub), 32))
	case decode.Mulhu:
		return wordOf(n.Rsh(n.Mul(ua, ub), 32))
	}
	return slowDivide(name, a, b)
}

// slowDivide is the part of slowDo that divides.
func slowDivide(name int, a, b uint32) uint32 {
	n, over, under := new(big.Int), signedOf(a), signedOf(b)
	if name == decode.Divu || name == decode.Remu {
		over, under = unsignedOf(a), unsignedOf(b)
	}
	rest := name == decode.Rem || name == decode.Remu
	switch {
	case b == 0 && rest:
		return a
	case b == 0:
		return ones
	case rest:
		return wordOf(n.Rem(over, under))
	}
	return wordOf(n.Quo(over, under))
}

// slowBranch is a second reading of P12.2.
func slowBranch(name int, a, b uint32) bool {
	signed, unsigned := signedOf(a).Cmp(signedOf(b)), unsignedOf(a).Cmp(unsignedOf(b))
	return map[int]bool{
		decode.Beq: unsigned == 0, decode.Bne: unsigned != 0,
		decode.Blt: signed < 0, decode.Bge: signed >= 0,
		decode.Bltu: unsigned < 0, decode.Bgeu: unsigned >= 0,
	}[name]
}

// slowAmo is a second reading of P12.3.
func slowAmo(name int, old, v uint32) uint32 {
	pick := func(first bool) uint32 {
		if first {
			return old
		}
		return v
	}
	signed, unsigned := signedOf(old).Cmp(signedOf(v)), unsignedOf(old).Cmp(unsignedOf(v))
	return map[int]uint32{
		decode.Amoswap: v,
		decode.Amoadd:  slowDo(decode.Add, old, v),
		decode.Amoxor:  slowDo(decode.Xor, old, v),
		decode.Amoand:  slowDo(decode.And, old, v),
		decode.Amoor:   slowDo(decode.Or, old, v),
		decode.Amomin:  pick(signed < 0),
		decode.Amomax:  pick(signed > 0),
		decode.Amominu: pick(unsigned < 0),
		decode.Amomaxu: pick(unsigned > 0),
	}[name]
}

// slowLoad is a second reading of P12.4, bit by bit.
func slowLoad(name int, w uint32) uint32 {
	many := map[int]int{decode.Lb: 8, decode.Lbu: 8, decode.Lh: 16, decode.Lhu: 16, decode.Lw: 32}[name]
	extends := name == decode.Lb || name == decode.Lh
	var is uint32
	for i := range 32 {
		switch {
		case i < many:
			is |= w & (1 << i)
		case extends:
			is |= w >> (many - 1) & 1 << i
		}
	}
	return is
}

// check holds every operation of two words against the second reading.
func check(t *testing.T, a, b uint32) {
	t.Helper()
	for _, name := range doNames {
		if w, is := Do(name, a, b); w != slowDo(name, a, b) || !is {
			t.Fatalf("Do(%d, %08x, %08x) = %08x, %v; want %08x", name, a, b, w, is, slowDo(name, a, b))
		}
	}
	for _, name := range branchNames {
		if goes, is := Branch(name, a, b); goes != slowBranch(name, a, b) || !is {
			t.Fatalf("Branch(%d, %08x, %08x) = %v, %v; want %v", name, a, b, goes, is, slowBranch(name, a, b))
		}
	}
	for _, name := range amoNames {
		if w, is := Amo(name, a, b); w != slowAmo(name, a, b) || !is {
			t.Fatalf("Amo(%d, %08x, %08x) = %08x, %v; want %08x", name, a, b, w, is, slowAmo(name, a, b))
		}
	}
}

// checkLoad holds every load of a word against the second reading.
func checkLoad(t *testing.T, w uint32) {
	t.Helper()
	for _, name := range loadNames {
		if x, is := Load(name, w); x != slowLoad(name, w) || !is {
			t.Fatalf("Load(%d, %08x) = %08x, %v; want %08x", name, w, x, is, slowLoad(name, w))
		}
	}
}

// mustDo returns what Do does of a name that it knows.
func mustDo(t *testing.T, name int, a, b uint32) uint32 {
	t.Helper()
	w, is := Do(name, a, b)
	if !is {
		t.Fatalf("Do(%d, ..): false", name)
	}
	return w
}

func TestExample(t *testing.T) {
	if w := mustDo(t, decode.Div, seven, 2); int32(w) != -3 {
		t.Errorf("%08x", w)
	}
	if w := mustDo(t, decode.Rem, seven, 2); int32(w) != -1 {
		t.Errorf("%08x", w)
	}
}

// operand is a call of an operation of two words, and its result.
type operand struct {
	name    int
	a, b, w uint32
}

// P12.1: results written out by hand, those of sums, shifts and bits.
func TestDoSimple(t *testing.T) {
	for _, c := range []operand{
		{decode.Add, 5, 7, 12}, {decode.Add, ones, 1, 0}, {decode.Addi, most, 1, least}, {decode.Addi, 5, two, 3},
		{decode.Sub, 7, 5, 2}, {decode.Sub, 0, 1, ones}, {decode.Sub, least, 1, most},
		{decode.Sll, 3, 0, 3}, {decode.Sll, 3, 31, least}, {decode.Sll, 3, 32, 3}, {decode.Slli, 3, 33, 6}, {decode.Slli, 3, ones, least},
		{decode.Srl, least, 31, 1}, {decode.Srl, left, 32, left}, {decode.Srl, least, 33, 1 << 30}, {decode.Srli, ones, 4, 0x0fff_ffff},
		{decode.Srli, ones, 0, ones}, {decode.Srli, ones, ones, 1},
		{decode.Sra, least, 31, ones}, {decode.Sra, least, 32, least}, {decode.Sra, least, 33, 0xc000_0000}, {decode.Sra, most, 31, 0},
		{decode.Srai, seven, 1, 1<<32 - 4}, {decode.Srai, most, 4, 0x07ff_ffff}, {decode.Srai, ones, ones, ones},
		{decode.Slt, ones, 0, 1}, {decode.Slt, 0, ones, 0}, {decode.Slt, 5, 5, 0}, {decode.Slti, least, most, 1}, {decode.Slti, most, least, 0},
		{decode.Sltu, ones, 0, 0}, {decode.Sltu, 0, ones, 1}, {decode.Sltu, 5, 5, 0}, {decode.Sltiu, least, most, 0}, {decode.Sltiu, most, least, 1},
		{decode.Xor, 6, 3, 5}, {decode.Xori, left, ones, 0x789a_bcde}, {decode.Or, 6, 3, 7}, {decode.Ori, left, 0, left},
		{decode.And, 6, 3, 2}, {decode.Andi, left, ones, left},
	} {
		if w := mustDo(t, c.name, c.a, c.b); w != c.w {
			t.Errorf("Do(%d, %08x, %08x) = %08x; want %08x", c.name, c.a, c.b, w, c.w)
		}
	}
}

// P12.1: results written out by hand, those of products and of divisions.
func TestDoProduct(t *testing.T) {
	for _, c := range []operand{
		{decode.Mul, 6, 7, 42}, {decode.Mul, ones, ones, 1}, {decode.Mul, least, 2, 0}, {decode.Mul, seven, 2, 1<<32 - 14},
		{decode.Mulh, 6, 7, 0}, {decode.Mulh, ones, ones, 0}, {decode.Mulh, ones, 1, ones}, {decode.Mulh, least, least, 1 << 30},
		{decode.Mulh, least, most, 0xc000_0000}, {decode.Mulh, most, most, 0x3fff_ffff},
		{decode.Mulhsu, 1, ones, 0}, {decode.Mulhsu, ones, 1, ones}, {decode.Mulhsu, ones, ones, ones}, {decode.Mulhsu, least, ones, least},
		{decode.Mulhsu, most, ones, most - 1},
		{decode.Mulhu, ones, ones, two}, {decode.Mulhu, ones, 1, 0}, {decode.Mulhu, least, 2, 1}, {decode.Mulhu, least, least, 1 << 30},
		{decode.Div, 7, 2, 3}, {decode.Div, seven, 2, 1<<32 - 3}, {decode.Div, 7, two, 1<<32 - 3}, {decode.Div, seven, two, 3},
		{decode.Div, 1, two, 0}, {decode.Div, least, ones, least}, {decode.Div, least, 1, least}, {decode.Div, most, ones, least + 1},
		{decode.Div, 0, 0, ones}, {decode.Div, 7, 0, ones}, {decode.Div, least, 0, ones}, {decode.Div, least, least, 1}, {decode.Div, ones, least, 0},
		{decode.Divu, 7, 2, 3}, {decode.Divu, seven, 2, 0x7fff_fffc}, {decode.Divu, least, ones, 0}, {decode.Divu, ones, least, 1},
		{decode.Divu, 0, 0, ones}, {decode.Divu, 7, 0, ones}, {decode.Divu, ones, 1, ones}, {decode.Divu, ones, ones, 1},
		{decode.Rem, 7, 2, 1}, {decode.Rem, seven, 2, ones}, {decode.Rem, 7, two, 1}, {decode.Rem, seven, two, ones},
		{decode.Rem, least, ones, 0}, {decode.Rem, least, 0, least}, {decode.Rem, 7, 0, 7}, {decode.Rem, 0, 0, 0}, {decode.Rem, ones, least, ones},
		{decode.Remu, 7, 2, 1}, {decode.Remu, seven, 2, 1}, {decode.Remu, least, ones, least}, {decode.Remu, 7, 0, 7},
		{decode.Remu, ones, 0, ones}, {decode.Remu, ones, least, most},
	} {
		if w := mustDo(t, c.name, c.a, c.b); w != c.w {
			t.Errorf("Do(%d, %08x, %08x) = %08x; want %08x", c.name, c.a, c.b, w, c.w)
		}
	}
}

// P12.2: results written out by hand; the branches that go.
func TestBranch(t *testing.T) {
	for _, c := range []struct {
		a, b uint32
		goes []int
	}{
		{5, 5, []int{decode.Beq, decode.Bge, decode.Bgeu}},
		{ones, ones, []int{decode.Beq, decode.Bge, decode.Bgeu}},
		{5, 6, []int{decode.Bne, decode.Blt, decode.Bltu}},
		{6, 5, []int{decode.Bne, decode.Bge, decode.Bgeu}},
		{ones, 0, []int{decode.Bne, decode.Blt, decode.Bgeu}},
		{0, ones, []int{decode.Bne, decode.Bge, decode.Bltu}},
		{least, most, []int{decode.Bne, decode.Blt, decode.Bgeu}},
		{most, least, []int{decode.Bne, decode.Bge, decode.Bltu}},
	} {
		for _, name := range branchNames {
			if goes, is := Branch(name, c.a, c.b); goes != slices.Contains(c.goes, name) || !is {
				t.Errorf("Branch(%d, %08x, %08x) = %v, %v", name, c.a, c.b, goes, is)
			}
		}
	}
}

// P12.3: results written out by hand.
func TestAmo(t *testing.T) {
	for _, c := range []operand{
		{decode.Amoswap, 1, 2, 2}, {decode.Amoswap, left, 0, 0},
		{decode.Amoadd, ones, 2, 1}, {decode.Amoadd, most, 1, least},
		{decode.Amoxor, 6, 3, 5}, {decode.Amoand, 6, 3, 2}, {decode.Amoor, 6, 3, 7},
		{decode.Amomin, ones, 1, ones}, {decode.Amomin, 1, ones, ones}, {decode.Amomin, least, most, least}, {decode.Amomin, 3, 3, 3},
		{decode.Amomax, ones, 1, 1}, {decode.Amomax, 1, ones, 1}, {decode.Amomax, least, most, most}, {decode.Amomax, 3, 3, 3},
		{decode.Amominu, ones, 1, 1}, {decode.Amominu, 1, ones, 1}, {decode.Amominu, least, most, most}, {decode.Amominu, 3, 3, 3},
		{decode.Amomaxu, ones, 1, ones}, {decode.Amomaxu, 1, ones, ones}, {decode.Amomaxu, least, most, least}, {decode.Amomaxu, 3, 3, 3},
	} {
		if w, is := Amo(c.name, c.a, c.b); w != c.w || !is {
			t.Errorf("Amo(%d, %08x, %08x) = %08x, %v; want %08x", c.name, c.a, c.b, w, is, c.w)
		}
	}
}

// P12.4: results written out by hand, in the order of loadNames: Lb, Lh, Lbu, Lhu, Lw.
func TestLoad(t *testing.T) {
	for w, want := range map[uint32][]uint32{
		0:           {0, 0, 0, 0, 0},
		0x7f:        {0x7f, 0x7f, 0x7f, 0x7f, 0x7f},
		0x80:        {0xffff_ff80, 0x80, 0x80, 0x80, 0x80},
		0x1_7f80:    {0xffff_ff80, 0x7f80, 0x80, 0x7f80, 0x1_7f80},
		0x8000:      {0, 0xffff_8000, 0, 0x8000, 0x8000},
		0x1234_8765: {0x65, 0xffff_8765, 0x65, 0x8765, 0x1234_8765},
		least:       {0, 0, 0, 0, least},
		ones:        {ones, ones, 0xff, 0xffff, ones},
	} {
		for i, name := range loadNames {
			if x, is := Load(name, w); x != want[i] || !is {
				t.Errorf("Load(%d, %08x) = %08x, %v; want %08x", name, w, x, is, want[i])
			}
		}
	}
}

// P12.4: the sizes of all names, and of numbers that are none.
func TestSize(t *testing.T) {
	sizes := map[int]int{
		decode.Lb: 1, decode.Lbu: 1, decode.Sb: 1,
		decode.Lh: 2, decode.Lhu: 2, decode.Sh: 2,
		decode.Lw: 4, decode.Sw: 4, decode.Lr: 4, decode.Sc: 4,
		decode.Amoswap: 4, decode.Amoadd: 4, decode.Amoxor: 4, decode.Amoand: 4, decode.Amoor: 4,
		decode.Amomin: 4, decode.Amomax: 4, decode.Amominu: 4, decode.Amomaxu: 4,
	}
	for _, name := range everyName() {
		if size := Size(name); size != sizes[name] {
			t.Errorf("Size(%d) = %d; want %d", name, size, sizes[name])
		}
	}
}

// P12.1 to P12.4, R3: each function knows its names and no others, and its result is zero for these.
func TestNames(t *testing.T) {
	for _, name := range everyName() {
		for _, n := range []uint32{0, 5, ones} {
			if w, is := Do(name, n, n); is != slices.Contains(doNames, name) || !is && w != 0 {
				t.Errorf("Do(%d, ..) = %08x, %v", name, w, is)
			}
			if goes, is := Branch(name, n, n); is != slices.Contains(branchNames, name) || !is && goes {
				t.Errorf("Branch(%d, ..) = %v, %v", name, goes, is)
			}
			if w, is := Amo(name, n, n); is != slices.Contains(amoNames, name) || !is && w != 0 {
				t.Errorf("Amo(%d, ..) = %08x, %v", name, w, is)
			}
			if w, is := Load(name, n); is != slices.Contains(loadNames, name) || !is && w != 0 {
				t.Errorf("Load(%d, ..) = %08x, %v", name, w, is)
			}
		}
	}
}

// P12.1 to P12.4: numbers at the ends, each with each.
func TestEnds(t *testing.T) {
	for _, a := range numbers {
		checkLoad(t, a)
		for _, b := range numbers {
			check(t, a, b)
		}
	}
}

// P12.1: every shift of every bit.
func TestShifts(t *testing.T) {
	for bit := range 32 {
		for by := range uint32(70) {
			check(t, 1<<bit, by)
			check(t, ^uint32(1<<bit), by|left&^31)
		}
	}
}

// random returns words of all lengths, with a sign and without one.
func random(from *rand.Rand) uint32 {
	return uint32(int32(from.Uint32()) >> from.Intn(32))
}

// P12.1 to P12.4: random words.
func TestRandom(t *testing.T) {
	from := rand.New(rand.NewSource(121))
	for range 10000 {
		a := random(from)
		check(t, a, random(from))
		check(t, a, a+uint32(from.Intn(3))-1)
		checkLoad(t, from.Uint32())
	}
}

// P12.5: the quotient times the divisor, plus the remainder, is the dividend, also where there is no quotient.
func TestQuotients(t *testing.T) {
	for _, a := range numbers {
		for _, b := range numbers {
			checkQuotients(t, a, b)
		}
	}
	from := rand.New(rand.NewSource(125))
	for range 20000 {
		checkQuotients(t, random(from), random(from))
	}
}

func checkQuotients(t *testing.T, a, b uint32) {
	t.Helper()
	for _, names := range [][2]int{{decode.Div, decode.Rem}, {decode.Divu, decode.Remu}} {
		quotient, remainder := mustDo(t, names[0], a, b), mustDo(t, names[1], a, b)
		times := mustDo(t, decode.Mul, quotient, b)
		if back := mustDo(t, decode.Add, times, remainder); back != a {
			t.Fatalf("%08x by %08x: %08x, remainder %08x: that is %08x", a, b, quotient, remainder, back)
		}
	}
}

// P12.5: both halves of a product together are the product.
func TestProducts(t *testing.T) {
	for _, a := range numbers {
		for _, b := range numbers {
			checkProducts(t, a, b)
		}
	}
	from := rand.New(rand.NewSource(126))
	for range 20000 {
		checkProducts(t, random(from), random(from))
	}
}

func checkProducts(t *testing.T, a, b uint32) {
	t.Helper()
	low := uint64(mustDo(t, decode.Mul, a, b))
	whole := func(name int) uint64 { return uint64(mustDo(t, name, a, b))<<32 | low }
	if p := int64(whole(decode.Mulh)); p != int64(int32(a))*int64(int32(b)) {
		t.Fatalf("Mulh of %08x and %08x: %x", a, b, p)
	}
	if p := int64(whole(decode.Mulhsu)); p != int64(int32(a))*int64(b) {
		t.Fatalf("Mulhsu of %08x and %08x: %x", a, b, p)
	}
	if p := whole(decode.Mulhu); p != uint64(a)*uint64(b) {
		t.Fatalf("Mulhu of %08x and %08x: %x", a, b, p)
	}
}
