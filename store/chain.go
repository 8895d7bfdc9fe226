package store

import (
	"iter"
	"slices"

	"sheaf/api"
)

// part is what one block has of a file.
type part struct {
	at    int // the block
	bytes []byte
}

// Step is what block at has of f, if it is f's leaf of that place, and the block of
// the next one.
func (s *Store) Step(f api.File, place, at int) ([]byte, int, api.Status) {
	if s.disk.Off() {
		return nil, 0, api.Down
	}
	l, ok := readLeaf(s.disk, at)
	if !ok || at < api.Slots || l.Kind != api.KData || l.File != f.File || l.Place != place {
		return nil, 0, api.Corrupt
	}
	return slices.Clone(l.Load[:l.Size]), l.Next, api.OK
}

// parts goes along f's chain, and reads a block only when it is asked for. It ends
// at the first block that isn't OK.
func (s *Store) parts(f api.File) iter.Seq2[part, api.Status] {
	return func(yield func(part, api.Status) bool) {
		at := f.First
		for place := range f.Blocks {
			b, next, status := s.Step(f, place, at)
			if status != api.OK {
				yield(part{}, status)
				return
			}
			if !yield(part{at: at, bytes: b}, api.OK) {
				return
			}
			at = next
		}
		// Nothing may follow the last one; a file of no blocks begins nowhere.
		if at != 0 {
			yield(part{}, api.Corrupt)
		}
	}
}

// Blocks is an iterator over what each block of f's chain has of it.
func (s *Store) Blocks(f api.File) iter.Seq2[[]byte, api.Status] {
	return func(yield func([]byte, api.Status) bool) {
		for p, status := range s.parts(f) {
			if !yield(p.bytes, status) {
				return
			}
		}
	}
}

// chain is the blocks of f's chain, if it is whole.
func (s *Store) chain(f api.File) ([]int, api.Status) {
	var blocks []int
	for p, status := range s.parts(f) {
		if status != api.OK {
			return nil, status
		}
		blocks = append(blocks, p.at)
	}
	return blocks, api.OK
}
