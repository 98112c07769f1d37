package decode

import (
	"math"
	"math/rand"
	"testing"
)

// row is a row of the chapter's table of instructions.
type row struct {
	number, name int
	format       byte
	pattern      uint32
}

var rows = []row{
	{1, Lui, 'U', 0x37},
	{2, Auipc, 'U', 0x17},
	{3, Jal, 'J', 0x6f},
	{4, Jalr, 'I', 0x67},
	{5, Beq, 'B', 0x63},
	{6, Bne, 'B', 0x1063},
	{7, Blt, 'B', 0x4063},
	{8, Bge, 'B', 0x5063},
	{9, Bltu, 'B', 0x6063},
	{10, Bgeu, 'B', 0x7063},
	{11, Lb, 'I', 0x3},
	{12, Lh, 'I', 0x1003},
	{13, Lw, 'I', 0x2003},
	{14, Lbu, 'I', 0x4003},
	{15, Lhu, 'I', 0x5003},
	{16, Sb, 'S', 0x23},
	{17, Sh, 'S', 0x1023},
	{18, Sw, 'S', 0x2023},
	{19, Addi, 'I', 0x13},
	{20, Slti, 'I', 0x2013},
	{21, Sltiu, 'I', 0x3013},
	{22, Xori, 'I', 0x4013},
	{23, Ori, 'I', 0x6013},
	{24, Andi, 'I', 0x7013},
	{25, Slli, 'H', 0x1013},
	{26, Srli, 'H', 0x5013},
	{27, Srai, 'H', 0x40005013},
	{28, Add, 'R', 0x33},
	{29, Sub, 'R', 0x40000033},
	{30, Sll, 'R', 0x1033},
	{31, Slt, 'R', 0x2033},
	{32, Sltu, 'R', 0x3033},
	{33, Xor, 'R', 0x4033},
	{34, Srl, 'R', 0x5033},
	{35, Sra, 'R', 0x40005033},
	{36, Or, 'R', 0x6033},
	{37, And, 'R', 0x7033},
	{38, Mul, 'R', 0x2000033},
	{39, Mulh, 'R', 0x2001033},
	{40, Mulhsu, 'R', 0x2002033},
	{41, Mulhu, 'R', 0x2003033},
	{42, Div, 'R', 0x2004033},
	{43, Divu, 'R', 0x2005033},
	{44, Rem, 'R', 0x2006033},
	{45, Remu, 'R', 0x2007033},
	{46, Lr, 'L', 0x1000202f},
	{47, Sc, 'A', 0x1800202f},
	{48, Amoswap, 'A', 0x800202f},
	{49, Amoadd, 'A', 0x202f},
	{50, Amoxor, 'A', 0x2000202f},
	{51, Amoand, 'A', 0x6000202f},
	{52, Amoor, 'A', 0x4000202f},
	{53, Amomin, 'A', 0x8000202f},
	{54, Amomax, 'A', 0xa000202f},
	{55, Amominu, 'A', 0xc000202f},
	{56, Amomaxu, 'A', 0xe000202f},
	{57, Fence, 'F', 0xf},
	{58, Ecall, 'E', 0x73},
	{59, Ebreak, 'E', 0x100073},
	{60, Mret, 'E', 0x30200073},
	{61, Sret, 'E', 0x10200073},
	{62, Wfi, 'E', 0x10500073},
	{63, Sfence, 'V', 0x12000073},
	{64, Csrrw, 'C', 0x1073},
	{65, Csrrs, 'C', 0x2073},
	{66, Csrrc, 'C', 0x3073},
	{67, Csrrwi, 'C', 0x5073},
	{68, Csrrsi, 'C', 0x6073},
	{69, Csrrci, 'C', 0x7073},
}

// shape is a row of the chapter's table of formats.
type shape struct {
	mask         uint32
	rd, rs1, rs2 bool
	from         func(bit int) int // the bit of the word that is the bit of Imm; none if there is no such bit
}

// none is where a bit of Imm comes from that is always 0.
const none = -1

// low tells of an Imm whose lowest many bits are those of the word from bit at on.
func low(at, many int) func(int) int {
	return func(bit int) int {
		if bit < many {
			return at + bit
		}
		return none
	}
}

// shapes is a second reading of the chapter: bit by bit, where the program takes runs of bits.
var shapes = map[byte]shape{
	'U': {0x7f, true, false, false, func(bit int) int {
		if bit < 12 {
			return none
		}
		return bit
	}},
	'J': {0x7f, true, false, false, func(bit int) int {
		switch {
		case bit == 0:
			return none
		case bit <= 10:
			return 21 + bit - 1
		case bit == 11:
			return 20
		case bit <= 19:
			return bit
		}
		return 31
	}},
	'I': {0x707f, true, true, false, func(bit int) int { return min(20+bit, 31) }},
	'B': {0x707f, false, true, true, func(bit int) int {
		switch {
		case bit == 0:
			return none
		case bit <= 4:
			return 8 + bit - 1
		case bit <= 10:
			return 25 + bit - 5
		case bit == 11:
			return 7
		}
		return 31
	}},
	'S': {0x707f, false, true, true, func(bit int) int {
		if bit <= 4 {
			return 7 + bit
		}
		return min(25+bit-5, 31)
	}},
	'R': {0xfe00707f, true, true, true, low(0, 0)},
	'H': {0xfe00707f, true, true, false, low(20, 5)},
	'A': {0xf800707f, true, true, true, low(25, 2)},
	'L': {0xf9f0707f, true, true, false, low(25, 2)},
	'F': {0x707f, true, true, false, low(20, 12)},
	'E': {0xffffffff, false, false, false, low(0, 0)},
	'V': {0xfe007fff, false, true, true, low(0, 0)},
	'C': {0x707f, true, true, false, low(20, 12)},
}

// register returns a register's number in a word, or 0 if the format doesn't have it.
func register(is bool, w uint32, at int) int {
	if !is {
		return 0
	}
	return int(w >> at % 32)
}

// slowWord is Word by the second reading.
func slowWord(t *testing.T, w uint32) (Op, bool) {
	t.Helper()
	var o Op
	for _, r := range rows {
		s := shapes[r.format]
		if w&s.mask != r.pattern {
			continue
		}
		if o.Name != 0 {
			t.Fatalf("%08x has two rows: %d and %d", w, o.Name, r.number)
		}
		o = Op{Name: r.number, Rd: register(s.rd, w, 7), Rs1: register(s.rs1, w, 15), Rs2: register(s.rs2, w, 20)}
		for bit := range 32 {
			if from := s.from(bit); from != none {
				o.Imm |= w >> from & 1 << bit
			}
		}
	}
	return o, o.Name != 0
}

// slowEncode is Encode by the second reading: which ops have a word, and which one.
func slowEncode(o Op) (uint32, bool) {
	if o.Name < 1 || o.Name > len(rows) {
		return 0, false
	}
	r := rows[o.Name-1]
	s := shapes[r.format]
	w := r.pattern
	for _, f := range []struct {
		is    bool
		value int
		at    int
	}{{s.rd, o.Rd, 7}, {s.rs1, o.Rs1, 15}, {s.rs2, o.Rs2, 20}} {
		if f.value != 0 && !f.is || f.value < 0 || f.value > 31 {
			return 0, false
		}
		w |= uint32(f.value) << f.at
	}
	if !fits(r.format, o.Imm) {
		return 0, false
	}
	for bit := range 32 {
		if from := s.from(bit); from != none {
			w |= o.Imm >> bit & 1 << from
		}
	}
	return w, true
}

// fits tells which numbers the Imm of a format can be.
func fits(format byte, imm uint32) bool {
	signed := int32(imm)
	switch format {
	case 'U':
		return imm%4096 == 0
	case 'J':
		return signed >= -1048576 && signed <= 1048574 && imm%2 == 0
	case 'I', 'S':
		return signed >= -2048 && signed <= 2047
	case 'B':
		return signed >= -4096 && signed <= 4094 && imm%2 == 0
	case 'H':
		return imm < 32
	case 'A', 'L':
		return imm < 4
	case 'F', 'C':
		return imm < 4096
	}
	return imm == 0
}

// checkWord holds Word, and P11.4, against the second reading.
func checkWord(t *testing.T, w uint32) {
	t.Helper()
	o, is := Word(w)
	want, wantIs := slowWord(t, w)
	if o != want || is != wantIs {
		t.Fatalf("Word(%08x) = %+v, %v; want %+v, %v", w, o, is, want, wantIs)
	}
	if !is {
		return
	}
	if back, is := Encode(o); back != w || !is {
		t.Fatalf("Encode(%+v) = %08x, %v; want %08x", o, back, is, w)
	}
}

// checkEncode holds Encode, and P11.4, against the second reading.
func checkEncode(t *testing.T, o Op) {
	t.Helper()
	w, is := Encode(o)
	want, wantIs := slowEncode(o)
	if w != want || is != wantIs {
		t.Fatalf("Encode(%+v) = %08x, %v; want %08x, %v", o, w, is, want, wantIs)
	}
	if !is {
		return
	}
	if back, is := Word(w); back != o || !is {
		t.Fatalf("Word(%08x) = %+v, %v; want %+v", w, back, is, o)
	}
}

func TestExample(t *testing.T) {
	if o, is := Word(0x00500093); o != (Op{Name: Addi, Rd: 1, Imm: 5}) || !is {
		t.Errorf("%+v, %v", o, is)
	}
	if w, is := Encode(Op{Name: Addi, Rd: 1, Imm: 5}); w != 0x00500093 || !is {
		t.Errorf("%08x, %v", w, is)
	}
}

// P11.1: the names are the numbers of the table's rows.
func TestNames(t *testing.T) {
	if len(rows) != 69 || Lui != 1 || Csrrci != 69 {
		t.Fatal(len(rows), Lui, Csrrci)
	}
	for i, r := range rows {
		if r.number != i+1 || r.name != r.number {
			t.Errorf("row %d has the name %d", r.number, r.name)
		}
	}
}

// P11.1: a row's pattern alone is its name, with every field 0.
func TestWordPattern(t *testing.T) {
	for _, r := range rows {
		if o, is := Word(r.pattern); o != (Op{Name: r.name}) || !is {
			t.Errorf("Word(%08x) = %+v, %v; want the name %d alone", r.pattern, o, is, r.name)
		}
	}
}

// P11.1, P11.4: each bit beside the mask is in the field that the format tells, and each bit of the mask decides.
func TestWordBits(t *testing.T) {
	for _, r := range rows {
		rest := ^shapes[r.format].mask
		checkWord(t, r.pattern|rest)
		for bit := range 32 {
			checkWord(t, r.pattern^1<<bit)
			checkWord(t, (r.pattern|rest)^1<<bit)
		}
	}
}

// P11.1: every field at its ends, in words written out by hand.
func TestWordFields(t *testing.T) {
	for w, want := range map[uint32]Op{
		0xfffff037: {Lui, 0, 0, 0, 0xfffff000},
		0x00001fb7: {Lui, 31, 0, 0, 0x00001000},
		0x80000017: {Auipc, 0, 0, 0, 0x80000000},
		0x8000006f: {Jal, 0, 0, 0, 0xfff00000},
		0x7ffff06f: {Jal, 0, 0, 0, 0x000ffffe},
		0x0010006f: {Jal, 0, 0, 0, 0x00000800},
		0x000ff06f: {Jal, 0, 0, 0, 0x000ff000},
		0x7fe0006f: {Jal, 0, 0, 0, 0x000007fe},
		0x800f8fe7: {Jalr, 31, 31, 0, 0xfffff800},
		0x7ff00067: {Jalr, 0, 0, 0, 0x000007ff},
		0x80000063: {Beq, 0, 0, 0, 0xfffff000},
		0x7e000fe3: {Beq, 0, 0, 0, 0x00000ffe},
		0x000000e3: {Beq, 0, 0, 0, 0x00000800},
		0x00000f63: {Beq, 0, 0, 0, 0x0000001e},
		0x7e000063: {Beq, 0, 0, 0, 0x000007e0},
		0x01ff8063: {Beq, 0, 31, 31, 0},
		0x80000023: {Sb, 0, 0, 0, 0xfffff800},
		0x7e000fa3: {Sb, 0, 0, 0, 0x000007ff},
		0x00000fa3: {Sb, 0, 0, 0, 0x0000001f},
		0x41f05013: {Srai, 0, 0, 0, 31},
		0x01ffffb3: {And, 31, 31, 31, 0},
		0x16002faf: {Lr, 31, 0, 0, 3},
		0x1a0021af: {Sc, 3, 0, 0, 1},
		0xe5f0202f: {Amomaxu, 0, 0, 31, 2},
		0x80000f8f: {Fence, 31, 0, 0, 0x800},
		0xfffff0f3: {Csrrci, 1, 31, 0, 0xfff},
		0x80001073: {Csrrw, 0, 0, 0, 0x800},
		0x13ff8073: {Sfence, 0, 31, 31, 0},
	} {
		if o, is := Word(w); o != want || !is {
			t.Errorf("Word(%08x) = %+v, %v; want %+v", w, o, is, want)
		}
		if back, is := Encode(want); back != w || !is {
			t.Errorf("Encode(%+v) = %08x, %v; want %08x", want, back, is, w)
		}
	}
}

// P11.1: words that no row has.
func TestWordNone(t *testing.T) {
	for _, w := range []uint32{
		0, 1, 0xffffffff,
		0x00500091,             // an Addi of which bit 1 is 0
		0x00002063, 0x00003063, // no such branch
		0x00003003, 0x00006003, 0x00007003, // no such load
		0x00003023,             // no such store
		0x40001013, 0x02005013, // no such shift
		0x40001033, 0x04000033, 0x40007033, // no such sum
		0x0000302f, 0x1010202f, // not 32 bits wide; an Lr with rs2
		0x0000100f,                                                 // no such fence
		0x00000173, 0x00008073, 0x00200073, 0x00300073, 0x12000173, // not all of the bits of E and V
		0x00004073,
	} {
		if o, is := Word(w); o != (Op{}) || is {
			t.Errorf("Word(%08x) = %+v, %v", w, o, is)
		}
	}
}

// P11.1, P11.4: all words, as far as the bits go that any format's mask but E's and V's has.
func TestWordAll(t *testing.T) {
	random := rand.New(rand.NewSource(111))
	for n := range uint32(1) << 17 {
		w := n&0x7f | n>>7&7<<12 | n>>10<<25
		checkWord(t, w)
		checkWord(t, w|random.Uint32()&0x01ff8f80)
	}
}

// P11.1, P11.4: all words of the formats E and V, and those that differ from them in rd or rs1 alone.
func TestWordSystem(t *testing.T) {
	for n := range uint32(1) << 12 {
		for _, rest := range []uint32{0, 1 << 7, 31 << 7, 1 << 15, 31 << 15, 1 << 12, 4 << 12} {
			checkWord(t, n<<20|rest|0x73)
		}
	}
}

// P11.2: names that the table doesn't have.
func TestEncodeNoName(t *testing.T) {
	for _, name := range []int{0, -1, 70, 71, 1 << 32, 1<<32 + Addi, 256 + Addi, math.MinInt, math.MaxInt} {
		if w, is := Encode(Op{Name: name}); w != 0 || is {
			t.Errorf("name %d: %08x, %v", name, w, is)
		}
	}
}

// P11.2: a register that the format doesn't name must be 0, and one that it names must be one of the 32.
func TestEncodeRegisters(t *testing.T) {
	numbers := []int{1, 5, 30, 31, 32, 33, 63, 64, -1, -31, -32, 1 << 31, 1 << 32, 1<<32 + 1, math.MinInt, math.MaxInt}
	for _, r := range rows {
		for _, n := range numbers {
			checkEncode(t, Op{Name: r.name, Rd: n})
			checkEncode(t, Op{Name: r.name, Rs1: n})
			checkEncode(t, Op{Name: r.name, Rs2: n})
			checkEncode(t, Op{Name: r.name, Rd: n, Rs1: n, Rs2: n})
		}
	}
}

// P11.2: what an Imm can be hangs on the format: its length, its sign, and the bits that are always 0.
func TestEncodeImm(t *testing.T) {
	for _, r := range rows {
		for bit := range 32 {
			for n := range uint32(5) {
				near := uint32(1)<<bit + n - 2
				checkEncode(t, Op{Name: r.name, Imm: near})
				checkEncode(t, Op{Name: r.name, Imm: -near})
			}
		}
	}
	for _, o := range []Op{
		{Addi, 0, 0, 0, 2048}, {Addi, 0, 0, 0, 0xfffff7ff}, {Sw, 0, 0, 0, 2048},
		{Beq, 0, 0, 0, 4096}, {Beq, 0, 0, 0, 0xffffeffe}, {Beq, 0, 0, 0, 3},
		{Jal, 0, 0, 0, 1 << 20}, {Jal, 0, 0, 0, 0xffeffffe}, {Jal, 0, 0, 0, 5},
		{Lui, 0, 0, 0, 4095}, {Slli, 0, 0, 0, 32}, {Amoadd, 0, 0, 0, 4}, {Lr, 0, 0, 0, 4},
		{Csrrw, 0, 0, 0, 4096}, {Csrrw, 0, 0, 0, 0xffffffff}, {Fence, 0, 0, 0, 4096},
		{Add, 0, 0, 0, 1}, {Mret, 0, 0, 0, 1}, {Sfence, 0, 0, 0, 1},
	} {
		if w, is := Encode(o); w != 0 || is {
			t.Errorf("Encode(%+v) = %08x, %v", o, w, is)
		}
	}
}

// P11.3: names with an rd, but Fence.
func TestWrites(t *testing.T) {
	not := map[int]bool{
		Beq: true, Bne: true, Blt: true, Bge: true, Bltu: true, Bgeu: true, Sb: true, Sh: true, Sw: true,
		Fence: true, Ecall: true, Ebreak: true, Mret: true, Sret: true, Wfi: true, Sfence: true,
	}
	for _, r := range rows {
		if Writes(r.name) == not[r.name] {
			t.Errorf("name %d: %v", r.name, Writes(r.name))
		}
	}
	for _, name := range []int{0, -1, 70, 128 + Addi, 1<<32 + Addi, math.MinInt, math.MaxInt} {
		if Writes(name) {
			t.Errorf("there is no name %d", name)
		}
	}
}

// P11.4: random words, and words that are random beside a row's mask.
func TestBackWords(t *testing.T) {
	random := rand.New(rand.NewSource(114))
	for range 20000 {
		checkWord(t, random.Uint32())
		r := rows[random.Intn(len(rows))]
		checkWord(t, r.pattern|random.Uint32()&^shapes[r.format].mask)
	}
}

// P11.2, P11.4: random ops, of which some have a word.
func TestBackOps(t *testing.T) {
	random := rand.New(rand.NewSource(115))
	register := func() int {
		return []int{0, random.Intn(32), random.Intn(40) - 4}[random.Intn(3)]
	}
	for range 60000 {
		o := Op{Name: random.Intn(72) - 1, Rd: register(), Rs1: register(), Rs2: register()}
		o.Imm = uint32(int32(random.Uint32()) >> random.Intn(32))
		o.Imm <<= random.Intn(14)
		if random.Intn(3) == 0 {
			o.Imm = 0
		}
		if r := min(max(o.Name-1, 0), len(rows)-1); random.Intn(2) == 0 {
			o = without(o, shapes[rows[r].format])
		}
		checkEncode(t, o)
	}
}

// without returns an op whose registers are 0 where the format has none.
func without(o Op, s shape) Op {
	if !s.rd {
		o.Rd = 0
	}
	if !s.rs1 {
		o.Rs1 = 0
	}
	if !s.rs2 {
		o.Rs2 = 0
	}
	return o
}
