package store

import (
	"slices"

	"sheaf/api"
)

// Free is how many blocks are free.
func (s *Store) Free() int {
	n := 0
	for _, is := range s.free {
		if is {
			n++
		}
	}
	return n
}

// allFree is n blocks without files: all but the catalog's are free.
func allFree(n int) []bool {
	free := make([]bool, n)
	for i := api.Slots; i < n; i++ {
		free[i] = true
	}
	return free
}

// take is the lowest free block, which isn't free any more.
func (s *Store) take() (int, bool) {
	at := slices.Index(s.free, true)
	if at < 0 {
		return 0, false
	}
	s.free[at] = false
	return at, true
}

// scan finds out anew which blocks are free, by the catalog's files alone: what no
// commit named is free again.
func (s *Store) scan() api.Status {
	free := allFree(s.disk.Len())
	for _, f := range s.catalog.Files {
		blocks, status := s.chain(f)
		if status != api.OK {
			return status
		}
		for _, at := range blocks {
			if !free[at] {
				return api.Corrupt
			}
			free[at] = false
		}
	}
	s.free = free
	return api.OK
}

// Drop frees f's blocks. What the catalog names stays: a crash may lead back to it.
func (s *Store) Drop(f api.File) {
	if s.names(f.File) {
		return
	}
	blocks, status := s.chain(f)
	if status != api.OK {
		return
	}
	for _, at := range blocks {
		s.free[at] = true
	}
}

// names reports whether the catalog names a file of that number.
func (s *Store) names(file int) bool {
	return slices.ContainsFunc(s.catalog.Files, func(f api.File) bool { return f.File == file })
}
