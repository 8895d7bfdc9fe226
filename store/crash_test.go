package store_test

import (
	"bytes"
	"testing"

	"sheaf/api"
	"sheaf/catalog"
	"sheaf/disk"
	"sheaf/store"
)

// outcomes is each choice of what becomes of n writes that wait.
func outcomes(n int) [][]byte {
	all := [][]byte{nil}
	for range n {
		var more [][]byte
		for _, how := range all {
			for x := range byte(3) {
				more = append(more, append(bytes.Clone(how), x))
			}
		}
		all = more
	}
	return all
}

// change is a generation's work: file 1 made anew, a file between that is dropped,
// file 2 taken out, file 3 put in; then its Commit.
func change(s *store.Store, a, b []byte) api.Status {
	between := s.Create(200)
	between.Put(a)
	if f, status := between.Close(); status == api.OK {
		s.Drop(f)
	}
	one, three := s.Create(1), s.Create(3)
	one.Put(a)
	three.Put(b)
	f, status := one.Close()
	if status != api.OK {
		return status
	}
	g, status := three.Close()
	if status != api.OK {
		return status
	}
	return s.Commit(catalog.With(s.Catalog(), []api.File{f, g}, 2))
}

// holds reports whether the store's files are just these, by their names.
func holds(t *testing.T, s *store.Store, want map[int][]byte) {
	t.Helper()
	files := s.Catalog().Files
	taken := 0
	for _, f := range files {
		b, known := want[f.Name]
		if !known {
			t.Fatalf("there is a file %v", f)
		}
		is(t, s, f, b)
		taken += f.Blocks
	}
	if len(files) != len(want) {
		t.Fatalf("the files are %v", files)
	}
	free(t, s, s.Disk().Len()-api.Slots-taken)
}

// P7.8: a crash ahead of each write and flush of a generation's work, with each
// choice of what becomes of what waits; then the work is done again, with a crash in
// it too.
func TestCrashAtEachMoment(t *testing.T) {
	elder := map[int][]byte{1: text(1, 200), 2: text(2, 130)}
	newer := map[int][]byte{1: text(5, 120), 3: text(6, 9)}
	d, s := formatted(t, 12, 200, 130)
	wrote := d.Wrote()
	if status := change(s, newer[1], newer[3]); status != api.OK {
		t.Fatal(status)
	}
	goes := d.Wrote() - wrote + 2
	if goes != 8 {
		t.Fatalf("%d writes and flushes", goes)
	}
	holds(t, s, newer)
	for fuse := range goes + 1 {
		d, s := formatted(t, 12, 200, 130)
		d.Arm(fuse)
		if status := change(s, newer[1], newer[3]); (status == api.OK) != (fuse == goes) || status != api.OK && status != api.Down {
			t.Fatalf("a fuse of %d: %v", fuse, status)
		}
		for _, how := range outcomes(d.Waits()) {
			u := d.Twin()
			u.Boot(how...)
			committed := fuse == goes || fuse == goes-1 && how[0] == 1
			s := opened(t, u)
			if committed {
				holds(t, s, newer)
				continue
			}
			holds(t, s, elder)
			crashAgain(t, u, how, elder, newer)
		}
	}
}

// crashAgain does the work on a disk that crashed, with each crash of the last three
// writes and flushes, and then till its end.
func crashAgain(t *testing.T, d *disk.Disk, how []byte, elder, newer map[int][]byte) {
	t.Helper()
	for fuse := 4; fuse < 8; fuse++ {
		u := d.Twin()
		u.Arm(fuse)
		if status := change(opened(t, u), newer[1], newer[3]); status != api.Down {
			t.Fatalf("a fuse of %d, again: %v", fuse, status)
		}
		u.Boot(how...)
		s := opened(t, u)
		if s.Catalog().Gen == 2 {
			holds(t, s, newer)
			continue
		}
		holds(t, s, elder)
		if status := change(s, newer[1], newer[3]); status != api.OK {
			t.Fatal(status)
		}
		holds(t, opened(t, u), newer)
	}
}

// P7.8: crashes of generation upon generation: the slot that is torn is always the
// elder one.
func TestCrashOfEachGeneration(t *testing.T) {
	for way := range byte(3) {
		d, s := formatted(t, 24, 200, 130)
		want := [][]byte{text(1, 200), text(2, 130)}
		for gen := 2; gen < 12; gen++ {
			next := text(gen, 50*gen)
			f := save(t, s, 1+gen%2, next)
			d.Arm(2)
			if status := s.Commit(with(s, f)); status != api.Down {
				t.Fatal(status)
			}
			d.Boot(way)
			s = opened(t, d)
			if way == 1 {
				want[gen%2] = next
			}
			if (s.Catalog().Gen == gen) != (way == 1) {
				t.Fatalf("generation %d by %d: Gen %d", gen, way, s.Catalog().Gen)
			}
			has(t, s, want...)
			if way != 1 {
				f = save(t, s, 1+gen%2, next)
				commit(t, s, with(s, f))
				want[gen%2] = next
				has(t, s, want...)
			}
		}
	}
}

// P7.8: blocks of the catalog's files aren't written, whatever is written beside
// them, till a commit that doesn't name them any more.
func TestCommittedBlocksStay(t *testing.T) {
	d, s := formatted(t, 12, 200, 130)
	for _, f := range s.Catalog().Files {
		s.Drop(f)
	}
	w := s.Create(1)
	w.Put(text(3, 9999))
	s.Create(2).Put(text(4, 9999))
	d.Flush()
	has(t, opened(t, d), text(1, 200), text(2, 130))
	commit(t, s, api.Catalog{})
	f := save(t, s, 1, text(5, 1160))
	has(t, opened(t, d))
	commit(t, s, api.Catalog{Files: []api.File{f}})
	has(t, opened(t, d), text(5, 1160))
}

// dice are numbers that look like chance, the same ones each time.
type dice uint64

func (x *dice) below(n int) int {
	*x = *x*6364136223846793005 + 1442695040888963407
	return int(uint64(*x) >> 33 % uint64(n))
}

// plan is what one generation makes: files written in pieces, some of them dropped
// again, and perhaps one that is taken out.
func plan(s *store.Store, x *dice, want map[int][]byte) api.Status {
	gone := 1 + x.below(20)
	delete(want, gone)
	var put []api.File
	for range 1 + x.below(4) {
		name := 1 + x.below(6)
		b := text(x.below(1000), x.below(500))
		w := s.Create(name)
		for at := 0; at < len(b); {
			end := min(at+x.below(150), len(b))
			w.Put(b[at:end])
			at = end
		}
		f, status := w.Close()
		if status != api.OK {
			return status
		}
		if x.below(3) == 0 {
			s.Drop(f)
			continue
		}
		put = append(put, f)
		want[name] = b
	}
	return s.Commit(catalog.With(s.Catalog(), put, gone))
}

// P7.8: many generations, with crashes at any moment and full disks between.
func TestManyCrashes(t *testing.T) {
	crashes, fulls, commits := 0, 0, 0
	for seed := range 60 {
		x := dice(seed * 77)
		d, s := formatted(t, 12+x.below(20), 100)
		have := map[int][]byte{1: text(1, 100)}
		for range 25 {
			gen := s.Catalog().Gen
			want := map[int][]byte{}
			for name, b := range have {
				want[name] = b
			}
			d.Arm(x.below(40) - 8)
			status := plan(s, &x, want)
			d.Arm(-1)
			switch status {
			case api.OK:
				commits++
			case api.Down:
				crashes++
				how := []byte(nil)
				for range d.Waits() {
					how = append(how, byte(x.below(3)))
				}
				d.Boot(how...)
			case api.DiskFull:
				fulls++
			default:
				t.Fatalf("seed %d: %v", seed, status)
			}
			s = opened(t, d)
			if s.Catalog().Gen == gen+1 {
				have = want
			} else if s.Catalog().Gen != gen || status == api.OK {
				t.Fatalf("seed %d: Gen %d behind %d, and %v", seed, s.Catalog().Gen, gen, status)
			}
			holds(t, s, have)
		}
	}
	if crashes < 100 || fulls < 20 || commits < 500 {
		t.Errorf("%d crashes, %d full disks, %d commits", crashes, fulls, commits)
	}
}
