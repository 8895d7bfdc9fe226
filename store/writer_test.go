package store_test

import (
	"bytes"
	"testing"

	"sheaf/api"
	"sheaf/disk"
	"sheaf/store"
)

// begun is how many files may be begun in one generation.
const begun = 63

// fails holds all that a writer may be asked against a status that isn't OK.
func fails(t *testing.T, w *store.Writer, want api.Status) {
	t.Helper()
	for _, b := range [][]byte{nil, {}, {1}, text(1, 200)} {
		if status := w.Put(b); status != want {
			t.Fatalf("Put of %d bytes answers %v, not %v", len(b), status, want)
		}
	}
	for range 2 {
		if f, status := w.Close(); f != (api.File{}) || status != want {
			t.Fatalf("Close answers %v, %v, not %v", f, status, want)
		}
	}
}

// put puts b into w, and holds that it is OK.
func put(t *testing.T, w *store.Writer, b []byte) {
	t.Helper()
	if status := w.Put(b); status != api.OK {
		t.Fatalf("Put of %d bytes answers %v", len(b), status)
	}
}

// closed is the file that w made.
func closed(t *testing.T, w *store.Writer) api.File {
	t.Helper()
	f, status := w.Close()
	if status != api.OK {
		t.Fatalf("Close answers %v", status)
	}
	return f
}

// P7.3: the name, the generation, and how many were begun, be they ended or not.
func TestNumbersOfFiles(t *testing.T) {
	d, s := formatted(t, 200, 5, 6)
	for gen := 2; gen < 5; gen++ {
		for k := 1; k <= begun; k++ {
			w := s.Create(k * 3)
			switch k % 4 {
			case 1:
				put(t, w, []byte{1})
				continue
			case 2:
				put(t, w, text(k, 3))
			}
			want := api.File{Name: k * 3, File: 64*gen + k}
			if k%4 == 2 {
				f := closed(t, w)
				want.First, want.Blocks = f.First, 1
				if f != want || leafOf(t, d, f.First).File != want.File {
					t.Fatalf("file %d of generation %d is %v", k, gen, f)
				}
			} else if f := closed(t, w); f != want {
				t.Fatalf("file %d of generation %d is %v", k, gen, f)
			}
		}
		commit(t, s, s.Catalog())
		has(t, s, text(1, 5), text(2, 6))
	}
}

// P7.3: one more than may be begun has a status from its beginning on; it takes no
// block, and the others stay.
func TestTooManyFilesBegun(t *testing.T) {
	_, s := formatted(t, 20)
	var first, last *store.Writer
	for k := range begun {
		w := s.Create(9)
		put(t, w, nil)
		if k == 0 {
			first = w
		}
		last = w
	}
	for range 70 {
		fails(t, s.Create(9), api.DiskFull)
	}
	free(t, s, 18)
	put(t, first, text(1, 117))
	put(t, last, text(2, 3))
	a, b := closed(t, first), closed(t, last)
	if a != (api.File{Name: 9, File: 129, First: 2, Blocks: 2}) || b != (api.File{Name: 9, File: 191, First: 4, Blocks: 1}) {
		t.Fatal(a, b)
	}
	refused := s.Create(9)
	b.Name = 10
	commit(t, s, with(s, a, b))
	fails(t, refused, api.DiskFull)
	for range begun {
		closed(t, s.Create(1))
	}
	fails(t, s.Create(1), api.DiskFull)
}

// P7.3: only a commit begins the count anew.
func TestTheCountGoesOn(t *testing.T) {
	d, s := formatted(t, 20, 5)
	closed(t, s.Create(2))
	if status := s.Commit(api.Catalog{Step: -1}); status != api.BadParams {
		t.Fatal(status)
	}
	if f := closed(t, s.Create(2)); f.File != 130 {
		t.Errorf("behind a Commit that was refused: %v", f)
	}
	s.Drop(closed(t, s.Create(2)))
	for fuse := range 3 {
		d.Arm(fuse)
		if status := s.Commit(s.Catalog()); status != api.Down {
			t.Fatal(status)
		}
		d.Boot()
		if f := closed(t, s.Create(2)); f.File != 132+fuse {
			t.Errorf("behind a Commit without power: %v", f)
		}
	}
	if f := closed(t, opened(t, d).Create(2)); f.File != 129 {
		t.Errorf("behind an Open: %v", f)
	}
	commit(t, s, s.Catalog())
	if f := closed(t, s.Create(2)); f.File != 193 {
		t.Errorf("behind a Commit: %v", f)
	}
}

// P7.3: the numbers of the last generations.
func TestNumbersAtMaxGen(t *testing.T) {
	d := disk.New(100)
	layCatalog(t, d, 1, api.Catalog{Gen: api.MaxGen - 1})
	s := opened(t, d)
	for gen := api.MaxGen; gen <= api.MaxGen+1; gen++ {
		for k := 1; k <= begun; k++ {
			f := save(t, s, 200, text(k, 20))
			if f.File != 64*gen+k {
				t.Fatal(f)
			}
			is(t, s, f, text(k, 20))
		}
		if gen == api.MaxGen {
			commit(t, s, s.Catalog())
		}
	}
	if status := s.Commit(s.Catalog()); status != api.BadParams {
		t.Fatal(status)
	}
}

// P7.3: names that no catalog has are a writer's; a Commit tells of them.
func TestNamesOfWriters(t *testing.T) {
	for _, name := range []int{1, 255, 0, 256, -1} {
		_, s := formatted(t, 9)
		f := save(t, s, name, text(1, 120))
		if f != (api.File{Name: name, File: 129, First: 2, Blocks: 2}) {
			t.Fatal(f)
		}
		is(t, s, f, text(1, 120))
		status := s.Commit(api.Catalog{Files: []api.File{f}})
		if name == 1 || name == 255 {
			if status != api.OK {
				t.Errorf("Commit of a file of name %d: %v", name, status)
			}
			continue
		}
		if status != api.BadParams {
			t.Errorf("Commit of a file of name %d: %v", name, status)
		}
		s.Drop(f)
		free(t, s, 7)
	}
}

// P7.4: files of bytes that come in pieces, Puts of no bytes between them: the same
// blocks, whatever the pieces.
func TestWriterByPieces(t *testing.T) {
	for _, size := range []int{0, 1, 2, 115, 116, 117, 231, 232, 233, 347, 348, 349, 1000} {
		for _, piece := range []int{1, 2, 7, 58, 115, 116, 117, 232, 1001} {
			d, s := formatted(t, 20, 30)
			wrote := d.Wrote()
			w := s.Create(7)
			b := text(size, size)
			for at := 0; at < size; at += piece {
				put(t, w, nil)
				end := min(at+piece, size)
				put(t, w, b[at:end])
				put(t, w, []byte{})
				free(t, s, 17-blocksFor(end))
				if went := d.Wrote() - wrote; went != blocksFor(end)-1 {
					t.Fatalf("behind %d bytes %d blocks are written", end, went)
				}
			}
			f := closed(t, w)
			if f.Name != 7 || f.File != 129 || d.Wrote()-wrote != blocksFor(size) {
				t.Fatalf("%d bytes by %d: %v", size, piece, f)
			}
			free(t, s, 17-blocksFor(size))
			stands(t, d, f, b, upTo(3, 3+blocksFor(size))...)
			is(t, s, f, b)
			commit(t, s, api.Catalog{Files: []api.File{f}})
			is(t, opened(t, d), f, b)
		}
	}
}

// P7.4: nothing is put, or nothing but no bytes: a file of no block.
func TestWriterOfNoBytes(t *testing.T) {
	d, s := formatted(t, 3, 116)
	w := s.Create(2)
	put(t, w, nil)
	put(t, w, []byte{})
	wrote := d.Wrote()
	a, b := closed(t, w), closed(t, s.Create(3))
	if a != (api.File{Name: 2, File: 129}) || b != (api.File{Name: 3, File: 130}) || d.Wrote() != wrote || d.Waits() != 0 {
		t.Fatal(a, b)
	}
	commit(t, s, with(s, a, b))
	has(t, s, text(1, 116), nil, nil)
	has(t, opened(t, d), text(1, 116), nil, nil)
	darken(t, d)
	if f := closed(t, s.Create(5)); f != (api.File{Name: 5, File: 193}) {
		t.Error(f)
	}
}

// P7.4: writers side by side take the lowest free block each.
func TestWritersSideBySide(t *testing.T) {
	d, s := formatted(t, 20, 30)
	var writers []*store.Writer
	for k := range 3 {
		writers = append(writers, s.Create(10+k))
	}
	for at := range 300 {
		for k, w := range writers {
			put(t, w, text(k, 300)[at:at+1])
		}
	}
	for k := 2; k >= 0; k-- {
		f := closed(t, writers[k])
		if f.Name != 10+k || f.File != 129+k {
			t.Fatal(f)
		}
		stands(t, d, f, text(k, 300), 3+k, 6+k, 9+k)
	}
	free(t, s, 8)
}

// P7.4: blocks that became free are taken anew, the lowest first.
func TestWriterTakesTheLowestBlock(t *testing.T) {
	d, s := formatted(t, 16, 30)
	var files []api.File
	for k := range 5 {
		files = append(files, save(t, s, 10+k, text(k, 200)))
	}
	s.Drop(files[3])
	s.Drop(files[1])
	free(t, s, 7)
	f := save(t, s, 20, text(9, 700))
	stands(t, d, f, text(9, 700), 5, 6, 9, 10, 13, 14, 15)
	free(t, s, 0)
	for _, k := range []int{0, 2, 4} {
		is(t, s, files[k], text(k, 200))
	}
	s.Drop(files[0])
	stands(t, d, save(t, s, 21, text(8, 3)), text(8, 3), 3)
	free(t, s, 1)
}

// P7.4: the last free block, and one more, at each count of free blocks.
func TestWriterFillsTheDisk(t *testing.T) {
	for room := range 6 {
		d, s := formatted(t, 12, 116*(10-room))
		w := s.Create(2)
		put(t, w, text(2, 116*room))
		free(t, s, 0)
		stands(t, d, closed(t, w), text(2, 116*room), upTo(12-room, 12)...)
		w = s.Create(3)
		put(t, w, nil)
		if status := w.Put([]byte{1}); status != api.DiskFull {
			t.Fatalf("no block is free: %v", status)
		}
		fails(t, w, api.DiskFull)
		if f := closed(t, s.Create(4)); f.Blocks != 0 {
			t.Fatal(f)
		}
		is(t, s, s.Catalog().Files[0], text(1, 116*(10-room)))
	}
}

// P7.4: a byte too many, by itself or among others: from then on DiskFull. What was
// taken stays so till a commit.
func TestWriterOfAByteTooMany(t *testing.T) {
	for _, pieces := range [][]int{{349}, {348, 1}, {347, 2}, {1, 348}, {116, 116, 116, 1}, {232, 500}, {9999}} {
		d, s := formatted(t, 7, 200)
		w := s.Create(2)
		for i, n := range pieces {
			want := api.OK
			if i == len(pieces)-1 {
				want = api.DiskFull
			}
			if status := w.Put(text(i, n)); status != want {
				t.Fatalf("piece %d of %v: %v", i, pieces, status)
			}
		}
		fails(t, w, api.DiskFull)
		free(t, s, 0)
		if status := s.Create(3).Put([]byte{1}); status != api.DiskFull {
			t.Fatal(status)
		}
		has(t, opened(t, d), text(1, 200))
		commit(t, s, s.Catalog())
		has(t, s, text(1, 200))
		fails(t, w, api.DiskFull)
		f := save(t, s, 2, text(5, 348))
		commit(t, s, with(s, f))
		has(t, s, text(1, 200), text(5, 348))
		free(t, s, 0)
	}
}

// P7.4: a room that comes back doesn't bring the writer back.
func TestAFullWriterStaysSo(t *testing.T) {
	_, s := formatted(t, 6, 100)
	f := save(t, s, 2, text(2, 348))
	w := s.Create(3)
	if status := w.Put([]byte{1}); status != api.DiskFull {
		t.Fatal(status)
	}
	s.Drop(f)
	free(t, s, 3)
	fails(t, w, api.DiskFull)
	free(t, s, 3)
	is(t, s, save(t, s, 4, text(4, 348)), text(4, 348))
}

// P7.4: a power that goes ahead of each write.
func TestWriterWithoutPower(t *testing.T) {
	b := text(3, 400)
	for fuse := range 5 {
		d, s := formatted(t, 12, 100)
		d.Arm(fuse)
		w := s.Create(2)
		for at := range b {
			want := api.OK
			if at >= 116*(fuse+1) {
				want = api.Down
			}
			if status := w.Put(b[at : at+1]); status != want {
				t.Fatalf("a fuse of %d, byte %d: %v", fuse, at, status)
			}
		}
		if d.Off() != (fuse < 3) {
			t.Fatalf("a fuse of %d: off: %v", fuse, d.Off())
		}
		if fuse == 4 {
			is(t, s, closed(t, w), b)
			continue
		}
		if f, status := w.Close(); f != (api.File{}) || status != api.Down {
			t.Fatalf("a fuse of %d: Close answers %v, %v", fuse, f, status)
		}
		fails(t, w, api.Down)
		d.Boot()
		wrote := d.Wrote()
		fails(t, w, api.Down)
		if d.Wrote() != wrote {
			t.Fatal("a writer whose power went writes")
		}
		has(t, opened(t, d), text(1, 100))
	}
}

// P7.4: without power what needs no write is OK.
func TestWriterThatWritesNothingWithoutPower(t *testing.T) {
	d, s := formatted(t, 6, 100)
	darken(t, d)
	w := s.Create(2)
	put(t, w, nil)
	put(t, w, text(1, 116))
	free(t, s, 2)
	if status := w.Put([]byte{1}); status != api.Down {
		t.Fatal(status)
	}
	fails(t, w, api.Down)
	w = s.Create(3)
	put(t, w, []byte{1})
	if f, status := w.Close(); f != (api.File{}) || status != api.Down {
		t.Fatal(f, status)
	}
	fails(t, w, api.Down)
}

// P7.4: bytes that are handed in aren't kept, nor changed, nor the room behind them.
func TestWriterKeepsNoBytes(t *testing.T) {
	_, s := formatted(t, 9)
	w := s.Create(2)
	var want []byte
	for _, n := range []int{1, 50, 116, 65, 1, 200} {
		room := text(n, 2*n)
		want = append(want, room[:n]...)
		put(t, w, room[:n])
		if !bytes.Equal(room, text(n, 2*n)) {
			t.Fatal("what was handed in is changed")
		}
		clear(room)
	}
	is(t, s, closed(t, w), want)
}
