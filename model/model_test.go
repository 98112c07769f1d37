package model

import (
	"math"
	"math/rand"
	"slices"
	"testing"

	"dioptra/api"
	"dioptra/cfi"
	"dioptra/driver"
	"dioptra/ftl"
	"dioptra/nor"
)

// The values differ in single words: zero has none, each of the others has one of its own.
var (
	zero  = Value{}
	one   = Value{1}
	two   = Value{0, 1}
	three = Value{0, 0, 1}
	four  = Value{0, 0, 0, 1}
)

// noIndices returns numbers that are no index of so many values.
func noIndices(many int) []int {
	return []int{-1, -2, -many, -many - 1, many, many + 1, 1 << 32, 1<<32 + 1, math.MinInt, math.MinInt + 1, math.MaxInt}
}

// sure returns a state with these values, in which nothing is going.
func sure(l ...Value) State { return State{Sure: l} }

// going returns a state with these values, of which that at an index may also be v.
func going(at int, v Value, l ...Value) State {
	return State{Sure: l, Going: true, At: at, Next: v}
}

// isThe reports whether two states are the same in all fields.
func isThe(x, y State) bool {
	return slices.Equal(x.Sure, y.Sure) && x.Going == y.Going && x.At == y.At && x.Next == y.Next
}

// copyOf returns a state that shares nothing with s.
func copyOf(s State) State {
	s.Sure = append([]Value{}, s.Sure...)
	return s
}

// mustBe fails the test unless a state is the wanted one.
func mustBe(t *testing.T, name string, got, want State) {
	t.Helper()
	if !isThe(got, want) {
		t.Fatalf("%s:\n%+v, want\n%+v", name, got, want)
	}
}

// mustPermit fails the test unless May permits l or not, and Seen goes by it.
func mustPermit(t *testing.T, name string, s State, l []Value, may bool) {
	t.Helper()
	if got := May(s, l); got != may {
		t.Fatalf("%s: May of %+v and %v is %v", name, s, l, got)
	}
	want := s
	if may {
		want = sure(l...)
	}
	x, is := Seen(s, l)
	if is != may {
		t.Fatalf("%s: Seen of %+v and %v is %v", name, s, l, is)
	}
	mustBe(t, name+": Seen", x, want)
}

// P9.1 to P9.4: the example of the chapter.
func TestExample(t *testing.T) {
	s := Begun(New(2), 1, four)
	mustBe(t, "Begun", s, going(1, four, zero, zero))
	mustPermit(t, "before", s, []Value{zero, zero}, true)
	mustPermit(t, "after", s, []Value{zero, four}, true)
	mustPermit(t, "another sector", s, []Value{four, zero}, false)
}

// P9.1
func TestNew(t *testing.T) {
	for n, want := range map[int]int{
		0: 0, 1: 1, 2: 2, 12: 12, 366: 366, 998: 998, 999: 999, 1000: 1000,
		1001: 1000, 1002: 1000, 2000: 1000, math.MaxInt32: 1000, 1 << 32: 1000, 1<<32 + 3: 1000, math.MaxInt - 1: 1000, math.MaxInt: 1000,
		-1: 0, -2: 0, -1000: 0, math.MinInt32: 0, -1<<32 + 3: 0, math.MinInt + 1: 0, math.MinInt: 0,
	} {
		mustBe(t, "New", New(n), sure(make([]Value, want)...))
	}
}

// P9.2
func TestDone(t *testing.T) {
	for name, c := range map[string]struct {
		s    State
		at   int
		v    Value
		want State
	}{
		"the first":                 {sure(one, two, three), 0, four, sure(four, two, three)},
		"one between":               {sure(one, two, three), 1, four, sure(one, four, three)},
		"the last":                  {sure(one, two, three), 2, four, sure(one, two, four)},
		"the only one":              {sure(zero), 0, one, sure(one)},
		"the same value":            {sure(one, two), 1, two, sure(one, two)},
		"to zero":                   {sure(one, two), 1, zero, sure(one, zero)},
		"all bits":                  {sure(one, two), 1, Value{1 << 31, math.MaxUint32, 0, 7}, sure(one, Value{1 << 31, math.MaxUint32, 0, 7})},
		"where something was going": {going(1, four, one, two), 1, three, sure(one, three)},
		"what was going":            {going(1, four, one, two), 1, four, sure(one, four)},
		"elsewhere":                 {going(1, four, one, two), 0, three, sure(three, two)},
	} {
		mustBe(t, name, Done(c.s, c.at, c.v), c.want)
	}
}

// P9.2
func TestBegun(t *testing.T) {
	for name, c := range map[string]struct {
		s    State
		at   int
		v    Value
		want State
	}{
		"the first":                 {sure(one, two, three), 0, four, going(0, four, one, two, three)},
		"one between":               {sure(one, two, three), 1, four, going(1, four, one, two, three)},
		"the last":                  {sure(one, two, three), 2, four, going(2, four, one, two, three)},
		"the only one":              {sure(zero), 0, one, going(0, one, zero)},
		"the same value":            {sure(one, two), 1, two, going(1, two, one, two)},
		"to zero":                   {sure(one, two), 1, zero, going(1, zero, one, two)},
		"where something was going": {going(1, four, one, two), 1, three, going(1, three, one, two)},
		"elsewhere":                 {going(1, four, one, two), 0, three, going(0, three, one, two)},
	} {
		mustBe(t, name, Begun(c.s, c.at, c.v), c.want)
	}
}

// P9.2: an index that is none changes nothing, also of what is going.
func TestNoIndex(t *testing.T) {
	for _, s := range []State{
		{}, New(0), New(1), New(1000), sure(one, two, three), going(0, four, one), going(2, four, one, two, three),
	} {
		for _, at := range noIndices(len(s.Sure)) {
			mustBe(t, "Done", Done(s, at, two), s)
			mustBe(t, "Begun", Begun(s, at, two), s)
		}
	}
}

// P9.3, P9.4
func TestMay(t *testing.T) {
	for name, c := range map[string]struct {
		s   State
		l   []Value
		may bool
	}{
		"the same":                   {sure(one, two, three), []Value{one, two, three}, true},
		"the first differs":          {sure(one, two, three), []Value{two, two, three}, false},
		"one between differs":        {sure(one, two, three), []Value{one, one, three}, false},
		"the last differs":           {sure(one, two, three), []Value{one, two, two}, false},
		"in another order":           {sure(one, two, three), []Value{three, two, one}, false},
		"one less":                   {sure(one, two, three), []Value{one, two}, false},
		"one more":                   {sure(one, two, three), []Value{one, two, three, zero}, false},
		"none of some":               {sure(zero), nil, false},
		"some of none":               {State{}, []Value{zero}, false},
		"none of none":               {State{}, nil, true},
		"an empty list":              {State{}, []Value{}, true},
		"New of none":                {New(0), nil, true},
		"before":                     {going(1, four, one, two, three), []Value{one, two, three}, true},
		"after":                      {going(1, four, one, two, three), []Value{one, four, three}, true},
		"neither":                    {going(1, four, one, two, three), []Value{one, three, three}, false},
		"next ahead of its place":    {going(1, four, one, two, three), []Value{four, two, three}, false},
		"next behind its place":      {going(1, four, one, two, three), []Value{one, two, four}, false},
		"next everywhere":            {going(1, four, one, two, three), []Value{four, four, four}, false},
		"after, and another differs": {going(1, four, one, two, three), []Value{one, four, two}, false},
		"after, and the first too":   {going(1, four, one, two, three), []Value{two, four, three}, false},
		"after, one less":            {going(1, four, one, two, three), []Value{one, four}, false},
		"after, one more":            {going(1, four, one, two, three), []Value{one, four, three, three}, false},
		"the first is going":         {going(0, four, one, two), []Value{four, two}, true},
		"the last is going":          {going(1, four, one, two), []Value{one, four}, true},
		"zero is going":              {going(0, zero, one, two), []Value{zero, two}, true},
		"the same is going":          {going(0, one, one, two), []Value{one, two}, true},
		"the same, not zero":         {going(0, one, one, two), []Value{zero, two}, false},
		"next zero, nothing going":   {sure(one, two), []Value{zero, two}, false},
		"next, but nothing going":    {State{Sure: []Value{one, two}, At: 1, Next: four}, []Value{one, four}, false},
		"sure, but nothing going":    {State{Sure: []Value{one, two}, At: 1, Next: four}, []Value{one, two}, true},
	} {
		mustPermit(t, name, c.s, c.l, c.may)
	}
}

// P9.3, P9.4: every bit of every word of every sector matters, of Sure and of Next.
func TestEveryBit(t *testing.T) {
	l := []Value{{1, 2, 3, 4}, {5, 6, 7, 8}, {9, 10, 11, 12}}
	next := Value{13, 14, 15, 16}
	after := []Value{l[0], next, l[2]}
	for i := range l {
		for word := range api.Data {
			for bit := range 32 {
				x, y := slices.Clone(l), slices.Clone(after)
				x[i][word] ^= 1 << bit
				y[i][word] ^= 1 << bit
				mustPermit(t, "sure", sure(l...), x, false)
				mustPermit(t, "going, before", going(1, next, l...), x, false)
				mustPermit(t, "going, after", going(1, next, l...), y, false)
			}
		}
	}
}

// P9.3, P9.4: the greatest number of sectors.
func TestMany(t *testing.T) {
	s := New(math.MaxInt)
	for i := range 1000 {
		s = Done(s, i, Value{uint32(i), 1})
	}
	for _, at := range []int{0, 1, 500, 998, 999} {
		l := slices.Clone(s.Sure)
		mustPermit(t, "sure", s, l, true)
		l[at] = four
		mustPermit(t, "another value", s, l, false)
		mustPermit(t, "going", Begun(s, at, four), l, true)
		mustPermit(t, "going elsewhere", Begun(s, (at+1)%1000, four), l, false)
		mustPermit(t, "done", Done(s, at, four), l, true)
	}
}

// P9.3, R1, R5: states that no call made, whose At is no index.
func TestOddStates(t *testing.T) {
	for _, l := range [][]Value{nil, {}, {one}, {one, two, three}} {
		for _, at := range noIndices(len(l)) {
			s := going(at, four, l...)
			mustPermit(t, "the same", s, l, true)
			mustPermit(t, "one more", s, append(slices.Clone(l), four), false)
			mustBe(t, "Done of none", Done(s, -1, two), s)
			mustBe(t, "Begun of none", Begun(s, len(l), two), s)
			for i := range l {
				x := slices.Clone(l)
				x[i] = four
				mustPermit(t, "next somewhere", s, x, false)
				mustBe(t, "Done", Done(s, i, four), sure(x...))
				mustBe(t, "Begun", Begun(s, i, two), going(i, two, l...))
			}
		}
	}
}

// lists returns all lists of so many values, each of which is one of few.
func lists(many int, of []Value) [][]Value {
	all := [][]Value{{}}
	for range many {
		var longer [][]Value
		for _, l := range all {
			for _, v := range of {
				longer = append(longer, append(slices.Clone(l), v))
			}
		}
		all = longer
	}
	return all
}

// permitted returns the lists that P9.3 permits, one by one as it names them.
func permitted(s State) [][]Value {
	l := [][]Value{copyOf(s).Sure}
	if s.Going && s.Next != s.Sure[s.At] {
		after := copyOf(s).Sure
		after[s.At] = s.Next
		l = append(l, after)
	}
	return l
}

// mustPermitJust fails the test unless of all lists just those of the slow reading are permitted, and returns how many they are.
func mustPermitJust(t *testing.T, s State, all [][]Value) int {
	t.Helper()
	many, want := 0, permitted(s)
	for _, l := range all {
		may := slices.ContainsFunc(want, func(x []Value) bool { return slices.Equal(x, l) })
		mustPermit(t, "a list", s, l, may)
		if may {
			many++
		}
	}
	if many != len(want) {
		t.Fatalf("%+v permits %d lists, want %d", s, many, len(want))
	}
	return many
}

// P9.3 to P9.5: all that a few sectors with a few values can be, after Done and after Begun.
func TestOne(t *testing.T) {
	few := []Value{zero, one, four}
	var all [][]Value
	for n := range 5 {
		all = append(all, lists(n, few)...)
	}
	counts := [3]int{}
	for n := 1; n <= 3; n++ {
		for _, l := range lists(n, few) {
			for at := range n {
				for _, v := range few {
					begun := Begun(sure(l...), at, v)
					counts[mustPermitJust(t, begun, all)]++
					for _, s := range []State{Done(sure(l...), at, v), Done(begun, (at+1)%n, v)} {
						if many := mustPermitJust(t, s, all); many != 1 {
							t.Fatalf("after Done %d lists are permitted: %+v", many, s)
						}
					}
				}
			}
		}
	}
	if counts[0] != 0 || counts[1] == 0 || counts[2] == 0 {
		t.Errorf("after Begun so many lists are permitted: %v", counts)
	}
}

// P9.1 to P9.5, R4, R6: mixed calls, held against a slow reading that keeps all states.
func TestMixedCalls(t *testing.T) {
	r := rand.New(rand.NewSource(9))
	few := []Value{zero, one, two, three, four}
	seen := map[bool]int{}
	for range 300 {
		n := 1 + r.Intn(4)
		s, want := New(n), sure(make([]Value, n)...)
		var states, copies []State
		for range 40 {
			states, copies = append(states, s), append(copies, copyOf(want))
			at, v := r.Intn(n+2)-1, few[r.Intn(len(few))]
			is := at >= 0 && at < n
			switch r.Intn(3) {
			case 0:
				s = Done(s, at, v)
				if is {
					want = sure(copyOf(want).Sure...)
					want.Sure[at] = v
				}
			case 1:
				s = Begun(s, at, v)
				if is {
					want = going(at, v, want.Sure...)
				}
			case 2:
				l := slices.Clone(s.Sure)
				if is {
					l[at] = v
				}
				may := slices.ContainsFunc(permitted(want), func(x []Value) bool { return slices.Equal(x, l) })
				mustPermit(t, "mixed", s, l, may)
				s, _ = Seen(s, l)
				if may {
					want = sure(slices.Clone(l)...)
				}
				seen[may]++
				clear(l)
			}
			mustBe(t, "a state", s, want)
		}
		// Later calls left the earlier states as they were.
		for i := range states {
			mustBe(t, "an earlier state", states[i], copies[i])
		}
	}
	if seen[true] == 0 || seen[false] == 0 {
		t.Errorf("seen: %v", seen)
	}
}

// P9.1, P9.2, P9.4, R6: an answer shares no memory with an argument, nor with another answer.
func TestNothingShared(t *testing.T) {
	// What is behind the values belongs to the caller, too.
	spare := []Value{one, two, three, four, four}
	s := State{Sure: spare[:3], Going: true, At: 1, Next: four}
	l := []Value{one, four, three}
	seen, _ := Seen(s, l)
	unseen, is := Seen(s, l[:2])
	if is {
		t.Error("a list that is too short was seen")
	}
	for name, x := range map[string]State{
		"Done": Done(s, 0, two), "Done of none": Done(s, -1, two),
		"Begun": Begun(s, 0, two), "Begun of none": Begun(s, 3, two),
		"Seen": seen, "not seen": unseen, "New": New(3),
	} {
		clear(x.Sure[:cap(x.Sure)])
		if !slices.Equal(spare, []Value{one, two, three, four, four}) || !slices.Equal(l, []Value{one, four, three}) {
			t.Fatalf("%s: an argument changed: %v, %v", name, spare, l)
		}
	}
	mustBe(t, "New, again", New(3), sure(zero, zero, zero))
	for name, c := range map[string]struct{ got, want State }{
		"Done":          {Done(s, 0, two), sure(two, two, three)},
		"Done of none":  {Done(s, 3, two), going(1, four, one, two, three)},
		"Begun":         {Begun(s, 0, two), going(0, two, one, two, three)},
		"Begun of none": {Begun(s, -1, two), going(1, four, one, two, three)},
	} {
		clear(s.Sure)
		mustBe(t, name, c.got, c.want)
	}
	s = sure(one, four, three)
	unseen, _ = Seen(s, nil)
	seen, _ = Seen(s, l)
	clear(s.Sure)
	clear(l)
	mustBe(t, "not seen", unseen, sure(one, four, three))
	mustBe(t, "seen", seen, sure(one, four, three))
}

// drive returns a new driver of all blocks of a chip, over a new flash.
func drive(c *nor.Chip) *driver.Driver {
	return driver.New(cfi.New(c), c.Blocks())
}

// valuesOf returns what the sectors of a store have.
func valuesOf(t *testing.T, s *ftl.Store) []Value {
	t.Helper()
	var l []Value
	for i := range s.Sectors() {
		v, e := s.Read(i)
		if e != api.OK {
			t.Fatalf("Read(%d): error %d", i, e)
		}
		l = append(l, v)
	}
	return l
}

// P9.1 to P9.4: the states of a store whose power fails again and again are those that the model permits.
func TestStore(t *testing.T) {
	r := rand.New(rand.NewSource(10))
	c := nor.New(5, 1<<30)
	store, e := ftl.Format(drive(c))
	if e != api.OK {
		t.Fatalf("Format: error %d", e)
	}
	s := New(store.Sectors())
	failed := 0
	for i := range 2000 {
		at, v := r.Intn(len(s.Sure)), Value{uint32(i), r.Uint32()}
		c.Fuse(r.Intn(40), r.Uint32())
		switch e := store.Write(at, v); e {
		case api.OK:
			s = Done(s, at, v)
			continue
		case api.ErrOff:
			s = Begun(s, at, v)
		default:
			t.Fatalf("Write: error %d", e)
		}
		failed++
		c.On()
		if store, e = ftl.Mount(drive(c)); e != api.OK {
			t.Fatalf("Mount: error %d", e)
		}
		next, is := Seen(s, valuesOf(t, store))
		if !is {
			t.Fatalf("call %d: %+v is not permitted by %+v", i, valuesOf(t, store), s)
		}
		s = next
	}
	if failed == 0 {
		t.Error("the power never failed")
	}
}
