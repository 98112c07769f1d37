package ftl

import (
	"cmp"
	"iter"
	"slices"

	"dioptra/api"
	"dioptra/latest"
	"dioptra/page"
	"dioptra/scan"
)

// noBlock is the number of no block.
const noBlock = -1

// spot is where a page can be written.
type spot struct {
	block, page int
}

// copies are the two pages of a sector that tell how its block can be reclaimed:
// the latest one, and the one that would be the latest without the block of that
// (the zero place if there is none).
type copies struct {
	best, other latest.Place
}

// usable goes through the blocks that are not retired. Those that were erased least come first,
// so that the wear is spread.
func (s *Store) usable() iter.Seq2[int, scan.Block] {
	return func(yield func(int, scan.Block) bool) {
		var order []int
		for b := range s.blocks {
			if !s.retired[b] {
				order = append(order, b)
			}
		}
		slices.SortStableFunc(order, func(x, y int) int {
			return cmp.Compare(s.blocks[x].Count, s.blocks[y].Count)
		})
		for _, b := range order {
			if !yield(b, s.blocks[b]) {
				return
			}
		}
	}
}

// spots returns where pages can be written outside a block: first in blocks that hold some already.
func (s *Store) spots(without int) []spot {
	var begun, empty []spot
	for b, x := range s.usable() {
		if b == without || x.Head != page.Good {
			continue
		}
		to := &begun
		if scan.Empty(x) {
			to = &empty
		}
		for p, kind := range x.Kinds {
			if kind == page.Free {
				*to = append(*to, spot{b, p})
			}
		}
	}
	return append(begun, empty...)
}

// inTheWay returns a block that is to be reclaimed before a page of a sector is written;
// false if there is none, or none that can be.
func (s *Store) inTheWay(all map[uint32]copies, sector uint32) (int, bool) {
	moves := s.moves(all)
	if !s.roomy() {
		if b, is := s.cheapest(moves); is {
			return b, true
		}
	}
	own := all[sector]
	if own.best.What.Seq < most {
		return 0, false
	}
	// No Seq is left. The sector's old pages have to go, and at last the latest one
	// moves, which gives it a low Seq.
	b := own.best.Block
	if own.other.What.Seq > 0 {
		b = own.other.Block
	}
	return b, s.fits(b, moves[b])
}

// roomy reports whether enough blocks are still empty when the next page is written.
func (s *Store) roomy() bool {
	spots := s.spots(noBlock)
	if len(spots) == 0 {
		return false
	}
	empty := 0
	for b, x := range s.usable() {
		if b != spots[0].block && scan.Empty(x) {
			empty++
		}
	}
	return empty >= s.spare()
}

// spare returns how many blocks are to stay empty: one into which pages can be moved, and another one
// for the case that the block from which they came can't be erased. As long as at most one block is retired,
// the others have room for two such blocks beside perBlock pages each. Then a single one has to do.
func (s *Store) spare() int {
	if s.Retired() <= 1 {
		return 2
	}
	return 1
}

// cheapest returns the block that takes the fewest moves of those that are gained by reclaiming them;
// false if there are none.
func (s *Store) cheapest(moves [][]page.Page) (int, bool) {
	best, is := 0, false
	for b, x := range s.usable() {
		many := len(moves[b])
		gain := api.Pages - freeIn(x) - many
		if gain > 0 && s.fits(b, moves[b]) && (!is || many < len(moves[best])) {
			best, is = b, true
		}
	}
	return best, is
}

// fits reports whether these pages of a block can be moved to other blocks.
func (s *Store) fits(b int, moves []page.Page) bool {
	room := -freeIn(s.blocks[b])
	for _, x := range s.blocks {
		room += freeIn(x)
	}
	wrong := func(p page.Page) bool { return !page.Right(p) }
	return len(moves) <= room && !slices.ContainsFunc(moves, wrong)
}

// reclaim renews a block after its moves.
func (s *Store) reclaim(b int, moves []page.Page) api.Errno {
	spots := s.spots(b)
	for i, p := range moves {
		if e := s.put(spots[i], p); e != api.OK {
			return e
		}
	}
	return s.renew(b)
}

// moves returns for each block the pages that have to be written elsewhere before the block is renewed.
//
// A page gets the lowest Seq by which it is the latest one without the block. As long as the block is
// there it isn't needed, so that a block into which pages were moved when the power failed can be renewed.
func (s *Store) moves(all map[uint32]copies) [][]page.Page {
	moves := make([][]page.Page, len(s.blocks))
	// Only sectors of the store are gone through: pages of others can't be read, and are not kept.
	for sector := range s.Sectors() {
		c, is := all[uint32(sector)]
		p, other := c.best.What, c.other.What
		// Without any page the sector is as good as gone.
		if !is || p == other || p.Gone && other.Seq == 0 {
			continue
		}
		p.Seq = other.Seq + 1
		moves[c.best.Block] = append(moves[c.best.Block], p)
	}
	return moves
}

// copies returns the copies of each sector that has a page.
func (s *Store) copies() map[uint32]copies {
	all := map[uint32]copies{}
	rest := slices.Clone(s.blocks)
	for _, x := range latest.Of(s.blocks) {
		all[x.What.Sector] = copies{best: x}
		b := &rest[x.Block]
		for p := range b.Pages {
			if b.Pages[p].Sector == x.What.Sector {
				b.Kinds[p] = page.Torn
			}
		}
	}
	for _, x := range latest.Of(rest) {
		all[x.What.Sector] = copies{best: all[x.What.Sector].best, other: x}
	}
	return all
}

// freeIn returns how many pages of a block can be written.
func freeIn(x scan.Block) int {
	if x.Head != page.Good {
		return 0
	}
	many := 0
	for _, kind := range x.Kinds {
		if kind == page.Free {
			many++
		}
	}
	return many
}
