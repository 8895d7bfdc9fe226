package store

import (
	"sheaf/api"
	"sheaf/leaf"
)

// A file's number is its generation's times perGen, and which one of it it is: so no
// two files that a catalog may name have one number.
const perGen = 64

// Writer makes a file. It holds the last block back till it is known which one is
// the next.
type Writer struct {
	store  *Store
	status api.Status
	file   api.File
	held   api.Leaf
	at     int // the block that held goes into
}

// Create begins a file of that name.
func (s *Store) Create(name int) *Writer {
	s.begun++
	if s.begun >= perGen {
		return &Writer{store: s, status: api.DiskFull}
	}
	number := perGen*(s.catalog.Gen+1) + s.begun
	return &Writer{store: s, file: api.File{Name: name, File: number}}
}

// Put lets b stand behind the file's bytes.
func (w *Writer) Put(b []byte) api.Status {
	for len(b) > 0 && w.status == api.OK {
		if w.file.Blocks == 0 || w.held.Size == api.Load {
			w.status = w.grow()
			continue
		}
		n := copy(w.held.Load[w.held.Size:], b)
		w.held.Size += n
		b = b[n:]
	}
	return w.status
}

// grow takes the next block, and writes the one that was held, which names it.
func (w *Writer) grow() api.Status {
	at, ok := w.store.take()
	if !ok {
		return api.DiskFull
	}
	if w.file.Blocks == 0 {
		w.file.First = at
	} else if status := w.write(at); status != api.OK {
		return status
	}
	w.held = api.Leaf{Kind: api.KData, File: w.file.File, Place: w.file.Blocks}
	w.at = at
	w.file.Blocks++
	return api.OK
}

// write writes the block that is held, with what comes behind it.
func (w *Writer) write(next int) api.Status {
	w.held.Next = next
	return w.store.disk.Write(w.at, leaf.Put(w.held))
}

// Close writes the last block: the file is whole, though not yet committed.
func (w *Writer) Close() (api.File, api.Status) {
	if w.status == api.OK && w.file.Blocks > 0 {
		w.status = w.write(0)
	}
	if w.status != api.OK {
		return api.File{}, w.status
	}
	return w.file, api.OK
}
