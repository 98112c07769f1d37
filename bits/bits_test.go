package bits

import (
	"math"
	"testing"
)

// words holds single bits, runs of bits and mixed patterns.
var words = []uint32{
	0, 1, 2, 3, 0x80, 0xff, 0xf0f0, 0x7fff, 0x8000, 0xabcd, 0x12345678,
	0x55555555, 0xaaaaaaaa, 0xabcd1234, 0x7fffffff, 0x80000000, 0x80000001, 0xdeadbeef, 0xffffffff,
}

// numbers lists all positions and lengths about a word's, and the far ends of int.
func numbers() []int {
	l := []int{math.MinInt, math.MinInt + 1, math.MinInt + 31, math.MinInt + 32, math.MinInt32, -1000,
		1000, math.MaxInt32, math.MaxInt - 32, math.MaxInt - 31, math.MaxInt - 1, math.MaxInt}
	for n := -70; n <= 70; n++ {
		l = append(l, n)
	}
	return l
}

// hasBit reports whether bit n of w exists and is 1.
func hasBit(w uint32, n int) bool {
	return n >= 0 && n <= 31 && w/(1<<n)%2 == 1
}

// position returns the number of the word's bit i places above at; -1 if there is no such bit.
func position(at, i int) int {
	if at < -31 || at > 31 || at+i < 0 || at+i > 31 {
		return -1
	}
	return at + i
}

// slowField and slowPut take the chapter's words bit by bit.
func slowField(w uint32, at, many int) uint32 {
	sum := uint32(0)
	for i := 0; i < many && i <= 31; i++ {
		if hasBit(w, position(at, i)) {
			sum += 1 << i
		}
	}
	return sum
}

func slowPut(w uint32, at, many int, v uint32) uint32 {
	for i := 0; i < many && i <= 31; i++ {
		p := position(at, i)
		switch {
		case p < 0:
		case hasBit(v, i) && !hasBit(w, p):
			w += 1 << p
		case !hasBit(v, i) && hasBit(w, p):
			w -= 1 << p
		}
	}
	return w
}

func slowSign(v uint32, many int) uint32 {
	if many < 1 || many > 31 {
		return v
	}
	sum := uint32(0)
	for i := 0; i <= 31; i++ {
		if hasBit(v, min(i, many-1)) {
			sum += 1 << i
		}
	}
	return sum
}

func slowTurn(w uint32, by int) uint32 {
	sum := uint32(0)
	for i := 0; i <= 31; i++ {
		if hasBit(w, i) {
			sum += 1 << ((i + by%32 + 32) % 32)
		}
	}
	return sum
}

// P1.1
func TestFieldOrdinary(t *testing.T) {
	for _, c := range []struct {
		w        uint32
		at, many int
		want     uint32
	}{
		{0xabcd, 4, 8, 0xbc},
		{0xabcd, 0, 4, 0xd},
		{0xabcd, 12, 4, 0xa},
		{0x80000000, 31, 1, 1},
		{0xdeadbeef, 0, 32, 0xdeadbeef},
		{0xdeadbeef, 16, 16, 0xdead},
	} {
		if got := Field(c.w, c.at, c.many); got != c.want {
			t.Errorf("Field(%#x, %d, %d) = %#x, want %#x", c.w, c.at, c.many, got, c.want)
		}
	}
}

// P1.1
func TestFieldOutside(t *testing.T) {
	for _, c := range []struct {
		name     string
		at, many int
		want     uint32
	}{
		{"runs past bit 31", 28, 8, 0xf},
		{"begins past bit 31", 32, 8, 0},
		{"begins one below bit 0", -1, 2, 2},
		{"begins below bit 0", -4, 8, 0xf0},
		{"ends below bit 0", -8, 8, 0},
		{"only bit 0, at i = 31", -31, 32, 0x80000000},
		{"i above 31 does not count", -31, 33, 0x80000000},
		{"bit 0 only at i = 32", -32, 64, 0},
		{"more than a word", 0, 33, 0xffffffff},
		{"no bits", 0, 0, 0},
		{"fewer than no bits", 0, -1, 0},
		{"fewest", 0, math.MinInt, 0},
		{"most", 0, math.MaxInt, 0xffffffff},
		{"lowest place", math.MinInt, math.MaxInt, 0},
		{"highest place", math.MaxInt, math.MaxInt, 0},
	} {
		if got := Field(0xffffffff, c.at, c.many); got != c.want {
			t.Errorf("%s: Field(ones, %d, %d) = %#x, want %#x", c.name, c.at, c.many, got, c.want)
		}
	}
}

// P1.1
func TestPutOrdinary(t *testing.T) {
	for _, c := range []struct {
		w        uint32
		at, many int
		v, want  uint32
	}{
		{0xabcd, 4, 8, 0x12, 0xa12d},
		{0, 0, 8, 0x1ff, 0xff},
		{0xffffffff, 8, 8, 0, 0xffff00ff},
		{0xffffffff, 8, 8, 0xffffff5a, 0xffff5aff},
		{0, 31, 1, 1, 0x80000000},
		{0x12345678, 0, 32, 0xdeadbeef, 0xdeadbeef},
	} {
		if got := Put(c.w, c.at, c.many, c.v); got != c.want {
			t.Errorf("Put(%#x, %d, %d, %#x) = %#x, want %#x", c.w, c.at, c.many, c.v, got, c.want)
		}
	}
}

// P1.1
func TestPutOutside(t *testing.T) {
	const w, v = 0x12345678, 0xabcdef95
	for _, c := range []struct {
		name     string
		at, many int
		want     uint32
	}{
		{"runs past bit 31", 28, 8, 0x52345678},
		{"begins past bit 31", 32, 8, w},
		{"begins below bit 0", -4, 8, 0x12345679},
		{"ends below bit 0", -8, 8, w},
		{"i above 31 does not count", -4, 99, 0x1abcdef9},
		{"more than a word", 0, 33, v},
		{"no bits", 8, 0, w},
		{"fewer than no bits", 8, -1, w},
		{"fewest", 0, math.MinInt, w},
		{"most", 0, math.MaxInt, v},
		{"lowest place", math.MinInt, math.MaxInt, w},
		{"highest place", math.MaxInt, math.MaxInt, w},
	} {
		if got := Put(w, c.at, c.many, v); got != c.want {
			t.Errorf("%s: Put(w, %d, %d, v) = %#x, want %#x", c.name, c.at, c.many, got, c.want)
		}
	}
}

// P1.1
func TestFieldAndPutBitByBit(t *testing.T) {
	for _, at := range numbers() {
		for _, many := range numbers() {
			for i, w := range words {
				if got, want := Field(w, at, many), slowField(w, at, many); got != want {
					t.Fatalf("Field(%#x, %d, %d) = %#x, want %#x", w, at, many, got, want)
				}
				v := words[len(words)-1-i]
				if got, want := Put(w, at, many, v), slowPut(w, at, many, v); got != want {
					t.Fatalf("Put(%#x, %d, %d, %#x) = %#x, want %#x", w, at, many, v, got, want)
				}
			}
		}
	}
}

// P1.2
func TestSign(t *testing.T) {
	for _, c := range []struct {
		v    uint32
		many int
		want uint32
	}{
		{0x8, 4, 0xfffffff8},
		{0x7, 4, 7},
		{0xf7, 4, 7},
		{0x78, 4, 0xfffffff8},
		{0x800, 12, 0xfffff800},
		{0xffff, 16, 0xffffffff},
		{0, 1, 0},
		{1, 1, 0xffffffff},
		{0xfffffffe, 1, 0},
		{0x40000000, 31, 0xc0000000},
		{0x80000000, 31, 0},
		{0x80000000, 32, 0x80000000},
		{0x80000001, 33, 0x80000001},
		{5, 0, 5},
		{0xffffffff, 0, 0xffffffff},
		{5, -3, 5},
		{0x8, math.MinInt, 0x8},
		{0x8, math.MaxInt, 0x8},
	} {
		if got := Sign(c.v, c.many); got != c.want {
			t.Errorf("Sign(%#x, %d) = %#x, want %#x", c.v, c.many, got, c.want)
		}
	}
}

// P1.2
func TestSignBitByBit(t *testing.T) {
	for _, many := range numbers() {
		for _, v := range words {
			if got, want := Sign(v, many), slowSign(v, many); got != want {
				t.Fatalf("Sign(%#x, %d) = %#x, want %#x", v, many, got, want)
			}
		}
	}
}

// P1.3
func TestPartial(t *testing.T) {
	for _, c := range []struct{ from, to, pick, want uint32 }{
		{0xffff, 0, 0xff00, 0x00ff},
		{0, 0xffff, 0xff, 0xff},
		{0x12345678, 0x9abcdef0, 0xf0f0f0f0, 0x92b4d6f8},
		{0x55555555, 0xaaaaaaaa, 0x0000ffff, 0x5555aaaa},
		{0x55555555, 0xaaaaaaaa, 0, 0x55555555},
		{0x55555555, 0xaaaaaaaa, 0xffffffff, 0xaaaaaaaa},
	} {
		if got := Partial(c.from, c.to, c.pick); got != c.want {
			t.Errorf("Partial(%#x, %#x, %#x) = %#x, want %#x", c.from, c.to, c.pick, got, c.want)
		}
	}
}

// P1.3
func TestPartialBitByBit(t *testing.T) {
	for _, from := range words {
		for _, to := range words {
			for _, pick := range words {
				got := Partial(from, to, pick)
				for i := 0; i <= 31; i++ {
					source := from
					if hasBit(pick, i) {
						source = to
					}
					if hasBit(got, i) != hasBit(source, i) {
						t.Fatalf("Partial(%#x, %#x, %#x) = %#x: bit %d", from, to, pick, got, i)
					}
				}
			}
		}
	}
}

// P1.4
func TestTurn(t *testing.T) {
	for _, c := range []struct {
		w    uint32
		by   int
		want uint32
	}{
		{1, -1, 0x80000000},
		{0x80000001, 0, 0x80000001},
		{0x80000001, 1, 3},
		{0x12345678, 8, 0x34567812},
		{0x12345678, -8, 0x78123456},
		{1, 31, 0x80000000},
		{1, 32, 1},
		{1, 33, 2},
		{1, -31, 2},
		{1, -32, 1},
		{1, -33, 0x80000000},
		{1, math.MaxInt, 0x80000000},
		{1, math.MinInt, 1},
		{1, math.MinInt + 1, 2},
	} {
		if got := Turn(c.w, c.by); got != c.want {
			t.Errorf("Turn(%#x, %d) = %#x, want %#x", c.w, c.by, got, c.want)
		}
	}
}

// P1.4
func TestTurnBitByBit(t *testing.T) {
	for _, by := range numbers() {
		for _, w := range words {
			if got, want := Turn(w, by), slowTurn(w, by); got != want {
				t.Fatalf("Turn(%#x, %d) = %#x, want %#x", w, by, got, want)
			}
		}
	}
}

// P1.5
func TestFieldReturnsWhatPutPut(t *testing.T) {
	for at := 0; at <= 31; at++ {
		for many := 1; many <= 32-at; many++ {
			for _, w := range words {
				for _, v := range words {
					want := slowField(v, 0, many)
					if got := Field(Put(w, at, many, v), at, many); got != want {
						t.Fatalf("Field of Put(%#x, %d, %d, %#x) = %#x, want %#x", w, at, many, v, got, want)
					}
				}
			}
		}
	}
}

// P1.5
func TestPutBackChangesNothing(t *testing.T) {
	for _, at := range numbers() {
		for _, many := range numbers() {
			for _, w := range words {
				if got := Put(w, at, many, Field(w, at, many)); got != w {
					t.Fatalf("Put(%#x, %d, %d, its field) = %#x", w, at, many, got)
				}
			}
		}
	}
}

// P1.5
func TestPartialWithAllAndNonePicked(t *testing.T) {
	for _, from := range words {
		for _, to := range words {
			if got := Partial(from, to, 0xffffffff); got != to {
				t.Fatalf("Partial(%#x, %#x, all) = %#x", from, to, got)
			}
			if got := Partial(from, to, 0); got != from {
				t.Fatalf("Partial(%#x, %#x, none) = %#x", from, to, got)
			}
		}
	}
}

// P1.5
func TestTurnThereAndBack(t *testing.T) {
	for _, w := range words {
		if Turn(w, 32) != w || Turn(w, -32) != w {
			t.Errorf("Turn(%#x) by 32: %#x, %#x", w, Turn(w, 32), Turn(w, -32))
		}
		for by := -64; by <= 64; by++ {
			if got := Turn(Turn(w, by), -by); got != w {
				t.Errorf("Turn(%#x) by %d and back: %#x", w, by, got)
			}
			if Turn(w, by) != Turn(w, by+32) {
				t.Errorf("Turn(%#x) by %d differs from 32 more", w, by)
			}
		}
	}
}
