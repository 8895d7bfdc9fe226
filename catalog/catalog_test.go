package catalog_test

import (
	"cmp"
	"math"
	"slices"
	"testing"

	"sheaf/api"
	"sheaf/catalog"
	"sheaf/leaf"
)

// What the chapter's form has ahead of its files, and for each of them.
const (
	head = 17
	each = 7
)

// farOff are numbers that no place has, though some of their low bytes would do.
var farOff = []int{math.MinInt, math.MinInt + 2, -1 << 32, -65536, -65535, -256, -255, -254, -2, -1, 1<<31 + 2, 1 << 32, 1<<32 + 2, 1<<32 + 5, 1 << 62, math.MaxInt}

// ordinary is a catalog of two files.
func ordinary() api.Catalog {
	return api.Catalog{
		Gen:  2,
		Step: 3,
		Card: api.Card{From: 1, To: 9, Budget: 2, Fan: 3},
		Files: []api.File{
			{Name: 5, File: 130, First: 7, Blocks: 1},
			{Name: 9, File: 131},
		},
	}
}

// but is an ordinary catalog in which f changes something.
func but(f func(*api.Catalog)) api.Catalog {
	c := ordinary()
	f(&c)
	return c
}

// some is n files, of names from first on.
func some(n, first int) []api.File {
	var files []api.File
	for i := range n {
		files = append(files, api.File{Name: first + i, File: 1 + 4681*i, First: 65535 - i, Blocks: 1 + 39*i})
	}
	return files
}

// same reports whether a and b are one catalog; nil and empty files are.
func same(a, b api.Catalog) bool {
	files := slices.Equal(a.Files, b.Files)
	return files && a.Gen == b.Gen && a.Step == b.Step && a.Status == b.Status && a.Ended == b.Ended && a.Card == b.Card
}

// rightCards are cards with each number at its ends and within.
func rightCards() []api.Card {
	var cards []api.Card
	for _, d := range [][2]int{{0, 0}, {0, 1}, {1, 1}, {1, 9}, {0, api.MaxDay}, {255, 256}, {65535, 65536}, {1 << 24, 1<<24 + 258}, {api.MaxDay - 1, api.MaxDay}, {api.MaxDay, api.MaxDay}, {123456789, 987654321}} {
		for _, budget := range []int{2, 3, 33, 63, 64} {
			for _, fan := range []int{2, 3, 9, 15, 16} {
				cards = append(cards, api.Card{From: d[0], To: d[1], Budget: budget, Fan: fan})
			}
		}
	}
	return cards
}

// wrongCards are cards that are wrong in one thing each, the zero one left out.
func wrongCards() []api.Card {
	good := api.Card{From: 4, To: 9, Budget: 5, Fan: 6}
	var cards []api.Card
	wrong := func(f func(*api.Card)) {
		c := good
		f(&c)
		cards = append(cards, c)
	}
	for _, n := range append([]int{10, 11, 260, api.MaxDay, api.MaxDay + 1}, farOff...) {
		wrong(func(c *api.Card) { c.From = n })
	}
	for _, n := range append([]int{0, 3, api.MaxDay + 1, 1 << 31}, farOff...) {
		wrong(func(c *api.Card) { c.To = n })
	}
	for _, n := range append([]int{0, 1, 65, 66, 128, 255, 256, 258}, farOff...) {
		wrong(func(c *api.Card) { c.Budget = n })
	}
	for _, n := range append([]int{0, 1, 17, 18, 64, 255, 256, 258}, farOff...) {
		wrong(func(c *api.Card) { c.Fan = n })
	}
	for _, n := range []int{-1, 1} {
		wrong(func(c *api.Card) { *c = api.Card{From: n} })
		wrong(func(c *api.Card) { *c = api.Card{To: n} })
		wrong(func(c *api.Card) { *c = api.Card{Budget: n} })
		wrong(func(c *api.Card) { *c = api.Card{Fan: n} })
	}
	wrong(func(c *api.Card) { *c = api.Card{Budget: 2} })
	wrong(func(c *api.Card) { *c = api.Card{Fan: 2} })
	wrong(func(c *api.Card) { *c = api.Card{From: 1, To: 2} })
	wrong(func(c *api.Card) { c.From, c.To = -1, -1 })
	wrong(func(c *api.Card) { c.From, c.To = api.MaxDay+1, api.MaxDay+1 })
	return cards
}

// rights are right catalogs: each number at its ends and within, none, one and
// the most of files.
func rights() []api.Catalog {
	all := []api.Catalog{{}, ordinary()}
	right := func(f func(*api.Catalog)) { all = append(all, but(f)) }
	for _, n := range []int{0, 1, 2, 255, 256, 511, 512, 999, api.MaxGen} {
		right(func(c *api.Catalog) { c.Gen = n })
	}
	for n := range api.MaxStep + 1 {
		right(func(c *api.Catalog) { c.Step = n })
	}
	for s := api.OK; s <= api.Down; s++ {
		right(func(c *api.Catalog) { c.Status, c.Ended = s, true })
	}
	right(func(c *api.Catalog) { c.Card = api.Card{} })
	for _, card := range rightCards() {
		right(func(c *api.Catalog) { c.Card = card })
	}
	for n := range api.MaxFiles + 1 {
		right(func(c *api.Catalog) { c.Files = some(n, 1) })
		right(func(c *api.Catalog) { c.Files = some(n, 256-n) })
	}
	right(func(c *api.Catalog) { c.Files = []api.File{} })
	for _, f := range []api.File{
		{Name: 1, File: 1}, {Name: 255, File: 65535}, {Name: 1, File: 65535, First: 65535, Blocks: 512}, {Name: 255, File: 1, First: 1, Blocks: 1},
		{Name: 128, File: 255, First: 256, Blocks: 255}, {Name: 127, File: 256, First: 255, Blocks: 256}, {Name: 3, File: 65280, First: 65280, Blocks: 511}, {Name: 2, File: 258, First: 772, Blocks: 257},
	} {
		right(func(c *api.Catalog) { c.Files = []api.File{f} })
	}
	right(func(c *api.Catalog) { c.Files[0].Name, c.Files[1].Name = 1, 255 })
	right(func(c *api.Catalog) { c.Files[0].Name, c.Files[1].Name = 254, 255 })
	right(func(c *api.Catalog) { c.Files[1] = c.Files[0]; c.Files[1].Name = 6 })
	return all
}

// wrongs are catalogs that are wrong in one thing each.
func wrongs() []api.Catalog {
	var all []api.Catalog
	wrong := func(f func(*api.Catalog)) { all = append(all, but(f)) }
	for _, n := range append([]int{api.MaxGen + 1, api.MaxGen + 2, 65536}, farOff...) {
		wrong(func(c *api.Catalog) { c.Gen = n })
	}
	for _, n := range append([]int{api.MaxStep + 1, api.MaxStep + 2, 255, 256}, farOff...) {
		wrong(func(c *api.Catalog) { c.Step = n })
	}
	for s := api.BadParams; s <= api.Down+2; s++ {
		wrong(func(c *api.Catalog) { c.Status = s })
	}
	for _, n := range append([]int{int(api.Down) + 1, int(api.Down) + 2, 255, 256}, farOff...) {
		wrong(func(c *api.Catalog) { c.Status = api.Status(n) })
		wrong(func(c *api.Catalog) { c.Status, c.Ended = api.Status(n), true })
	}
	for _, card := range wrongCards() {
		wrong(func(c *api.Catalog) { c.Card = card })
	}
	for _, n := range []int{api.MaxFiles + 1, api.MaxFiles + 2, 100, 255} {
		wrong(func(c *api.Catalog) {
			c.Files = nil
			for i := range n {
				c.Files = append(c.Files, api.File{Name: 1 + i, File: 1})
			}
		})
	}
	return append(all, wrongFiles()...)
}

// wrongFiles are catalogs of which a file is wrong, the first and the last one.
func wrongFiles() []api.Catalog {
	var all []api.Catalog
	wrong := func(f func(*api.File)) {
		for i := range 2 {
			all = append(all, but(func(c *api.Catalog) {
				c.Files[1].First, c.Files[1].Blocks = 8, 2
				f(&c.Files[i])
			}))
		}
	}
	for _, n := range append([]int{0, 256, 257, 261, 262}, farOff...) {
		wrong(func(f *api.File) { f.Name = n })
	}
	for _, n := range append([]int{0, 65536, 65537}, farOff...) {
		wrong(func(f *api.File) { f.File = n })
		wrong(func(f *api.File) { f.First = n })
	}
	for _, n := range append([]int{0, 513, 514, 65536, 65537}, farOff...) {
		wrong(func(f *api.File) { f.Blocks = n })
	}
	for _, n := range farOff {
		wrong(func(f *api.File) { f.First, f.Blocks = 0, n })
		wrong(func(f *api.File) { f.First, f.Blocks = n, 0 })
	}
	for _, n := range []int{1, 2, 65535} {
		wrong(func(f *api.File) { f.First, f.Blocks = n, 0 })
	}
	for _, n := range []int{1, 2, 512} {
		wrong(func(f *api.File) { f.First, f.Blocks = 0, n })
	}
	names := func(n ...int) {
		all = append(all, but(func(c *api.Catalog) {
			c.Files = nil
			for _, name := range n {
				c.Files = append(c.Files, api.File{Name: name, File: 1})
			}
		}))
	}
	names(5, 5)
	names(1, 1)
	names(255, 255)
	names(9, 5)
	names(2, 1)
	names(1, 2, 2)
	names(1, 3, 2)
	names(2, 1, 3)
	names(1, 2, 3, 1)
	names(1, 2, 3, 4, 5, 6, 7, 8, 9, 10, 11, 12, 14, 13)
	return all
}

// form is c as the chapter writes it, by another way than the package's.
func form(c api.Catalog) api.Leaf {
	var b []byte
	put := func(bytes, n int) {
		for range bytes {
			b = append(b, byte(n%256))
			n /= 256
		}
	}
	put(4, c.Gen)
	put(1, c.Step)
	put(1, int(c.Status))
	ended := 0
	if c.Ended {
		ended = 1
	}
	put(1, ended)
	put(1, c.Card.Budget)
	put(1, c.Card.Fan)
	put(4, c.Card.From)
	put(4, c.Card.To)
	for _, f := range c.Files {
		put(1, f.Name)
		put(2, f.File)
		put(2, f.First)
		put(2, f.Blocks)
	}
	l := api.Leaf{Kind: api.KCatalog, Size: len(b)}
	copy(l.Load[:], b)
	return l
}

// isNone holds that Get answers zero and false.
func isNone(t *testing.T, what string, l api.Leaf) {
	t.Helper()
	if c, ok := catalog.Get(l); ok || !same(c, api.Catalog{}) {
		t.Fatalf("%s: Get(%v) = %v, %v", what, l, c, ok)
	}
}

// P6.2, P6.3, P6.4.
func TestRunsOfTheChapter(t *testing.T) {
	it := api.Catalog{Gen: 2, Card: api.Card{From: 1, To: 9, Budget: 2, Fan: 3}, Files: []api.File{{Name: 5, File: 130, First: 7, Blocks: 1}}}
	l := catalog.Put(it)
	if l.Size != 24 {
		t.Errorf("Size is %d", l.Size)
	}
	if c, ok := catalog.Get(l); !ok || !same(c, it) {
		t.Errorf("Get of Put = %v, %v", c, ok)
	}
	three := api.File{Name: 3, File: 131, First: 8, Blocks: 2}
	if c := catalog.With(it, []api.File{three}, 5); !slices.Equal(c.Files, []api.File{three}) {
		t.Errorf("With = %v", c)
	}
}

// P6.1.
func TestRightCard(t *testing.T) {
	for _, c := range rightCards() {
		if !catalog.RightCard(c) {
			t.Fatalf("%v isn't right", c)
		}
	}
	for _, c := range append(wrongCards(), api.Card{}) {
		if catalog.RightCard(c) {
			t.Fatalf("%v is right", c)
		}
	}
}

// P6.1.
func TestRight(t *testing.T) {
	for _, c := range rights() {
		if !catalog.Right(c) {
			t.Fatalf("%v isn't right", c)
		}
	}
}

// P6.1: wrong inputs.
func TestRightOfWrongCatalogs(t *testing.T) {
	for _, c := range wrongs() {
		if catalog.Right(c) {
			t.Fatalf("%v is right", c)
		}
	}
}

// P6.1, P6.2: files are only read, and none of the room behind them.
func TestFilesAreOnlyRead(t *testing.T) {
	room := append(some(api.MaxFiles, 1), api.File{Name: 2}, api.File{Name: -1})
	kept := slices.Clone(room)
	for n := range api.MaxFiles + 1 {
		c := but(func(c *api.Catalog) { c.Files = room[:n] })
		alone := but(func(c *api.Catalog) { c.Files = some(n, 1) })
		if !catalog.Right(c) || catalog.Put(c) != form(alone) || !slices.Equal(room, kept) {
			t.Fatalf("%d files: %v, %v", n, catalog.Put(c), room)
		}
	}
}

// P6.2: what the leaf is beside its bytes, and the bytes.
func TestPut(t *testing.T) {
	for _, c := range rights() {
		l := catalog.Put(c)
		if l != form(c) {
			t.Fatalf("Put(%v) = %v, not %v", c, l, form(c))
		}
		if !leaf.Right(l) || l.Size != head+each*len(c.Files) {
			t.Fatalf("Put(%v) = %v", c, l)
		}
	}
}

// P6.2: one leaf byte by byte.
func TestBytesOfPut(t *testing.T) {
	c := api.Catalog{
		Gen: 1000, Step: 20, Status: api.Corrupt, Ended: true,
		Card:  api.Card{From: 0x01020304, To: 0x15161718, Budget: 64, Fan: 16},
		Files: []api.File{{Name: 1, File: 0x0203, First: 0x0405, Blocks: 0x0106}, {Name: 255, File: 65535}},
	}
	want := []byte{232, 3, 0, 0, 20, 6, 1, 64, 16, 4, 3, 2, 1, 24, 23, 22, 21, 1, 3, 2, 5, 4, 6, 1, 255, 255, 255, 0, 0, 0, 0}
	l := catalog.Put(c)
	if l.Kind != api.KCatalog || l.File != 0 || l.Place != 0 || l.Next != 0 || l.Size != len(want) || !slices.Equal(l.Load[:l.Size], want) {
		t.Errorf("Put = %v", l)
	}
}

// P6.2: wrong inputs.
func TestPutOfWrongCatalogs(t *testing.T) {
	for _, c := range wrongs() {
		if l := catalog.Put(c); l != (api.Leaf{}) {
			t.Fatalf("Put(%v) = %v", c, l)
		}
	}
}

// P6.3, P6.5.
func TestGet(t *testing.T) {
	for _, c := range rights() {
		for _, l := range []api.Leaf{catalog.Put(c), form(c)} {
			if got, ok := catalog.Get(l); !ok || !same(got, c) {
				t.Fatalf("Get of %v = %v, %v", c, got, ok)
			}
		}
	}
}

// P6.5: what is put is got out of a block too.
func TestThroughABlock(t *testing.T) {
	for _, c := range rights() {
		l, ok := leaf.Get(leaf.Put(catalog.Put(c)))
		if got, is := catalog.Get(l); !ok || !is || !same(got, c) {
			t.Fatalf("%v comes out as %v, %v, %v", c, got, ok, is)
		}
	}
}

// P6.3: files that are got are the caller's, their spare room too.
func TestGetIsNewMemory(t *testing.T) {
	for _, c := range rights() {
		l := catalog.Put(c)
		first, _ := catalog.Get(l)
		second, _ := catalog.Get(l)
		whole := first.Files[:cap(first.Files)]
		for i := range whole {
			whole[i] = api.File{Name: -1}
		}
		third, ok := catalog.Get(l)
		if !ok || !same(second, c) || !same(third, c) {
			t.Fatalf("%v: %v, %v share memory", c, second, third)
		}
	}
}

// P6.2: a leaf has no memory of the files that were put.
func TestPutKeepsNothing(t *testing.T) {
	c := ordinary()
	l := catalog.Put(c)
	c.Files[0] = api.File{Name: 1, File: 1}
	if got, ok := catalog.Get(l); !ok || !same(got, ordinary()) {
		t.Errorf("Get = %v, %v", got, ok)
	}
}

// P6.3: wrong inputs: the numbers of a leaf beside its bytes.
func TestGetOfOtherLeaves(t *testing.T) {
	isNone(t, "zero", api.Leaf{})
	isNone(t, "noughts", api.Leaf{Kind: api.KCatalog})
	for _, c := range []api.Catalog{{}, ordinary(), but(func(c *api.Catalog) { c.Files = some(14, 1) })} {
		for _, n := range append([]int{0, 1, 3, 255}, farOff...) {
			l := form(c)
			l.Kind = n
			isNone(t, "Kind", l)
		}
		for _, n := range append([]int{1, 2, 65535, 65536}, farOff...) {
			for i := range 3 {
				l := form(c)
				*[]*int{&l.File, &l.Place, &l.Next}[i] = n
				isNone(t, "File, Place or Next", l)
			}
		}
	}
}

// P6.3: wrong inputs: sizes that Put makes of other catalogs, or of none.
func TestGetOfOtherSizes(t *testing.T) {
	for _, c := range []api.Catalog{{}, ordinary(), but(func(c *api.Catalog) { c.Files = some(13, 1) }), but(func(c *api.Catalog) { c.Files = some(14, 1) })} {
		l := form(c)
		right := l.Size
		for _, n := range farOff {
			l.Size = n
			isNone(t, "Size", l)
		}
		for n := range 300 {
			if n != right {
				l.Size = n
				isNone(t, "Size", l)
			}
		}
	}
}

// P6.3: wrong inputs: bytes that are behind the size.
func TestGetLooksBehindTheSize(t *testing.T) {
	for n := range api.MaxFiles + 1 {
		c := but(func(c *api.Catalog) { c.Files = some(n, 1) })
		for i := head + each*n; i < api.Load; i++ {
			for _, x := range []byte{1, 128, 255} {
				l := form(c)
				l.Load[i] = x
				isNone(t, "behind the size", l)
			}
		}
	}
}

// P6.3: wrong inputs: an end that is neither 0 nor 1.
func TestGetOfOtherEnds(t *testing.T) {
	for _, status := range []api.Status{api.OK, api.Overflow} {
		for n := 2; n < 256; n++ {
			l := form(but(func(c *api.Catalog) { c.Status, c.Ended = status, true }))
			l.Load[6] = byte(n)
			isNone(t, "Ended", l)
		}
	}
}

// P6.3: wrong inputs: bytes that say a catalog that isn't right.
func TestGetOfBytesOfWrongCatalogs(t *testing.T) {
	said := 0
	for _, c := range wrongs() {
		if len(c.Files) > api.MaxFiles || !fits(c) {
			continue
		}
		said++
		isNone(t, "not right", form(c))
	}
	if said < 40 {
		t.Fatalf("%d wrong catalogs only", said)
	}
}

// fits reports whether all of c's numbers go into their bytes.
func fits(c api.Catalog) bool {
	is := func(n, bytes int) bool { return n >= 0 && n < 1<<(8*bytes) }
	ok := is(c.Gen, 4) && is(c.Step, 1) && is(int(c.Status), 1) && is(c.Card.Budget, 1) && is(c.Card.Fan, 1) && is(c.Card.From, 4) && is(c.Card.To, 4)
	for _, f := range c.Files {
		ok = ok && is(f.Name, 1) && is(f.File, 2) && is(f.First, 2) && is(f.Blocks, 2)
	}
	return ok
}

// P6.3: of each byte, each value: Get says yes of what Put makes alone.
func TestGetOfEachByte(t *testing.T) {
	good := 0
	for _, c := range []api.Catalog{{}, ordinary(), but(func(c *api.Catalog) { c.Status, c.Ended, c.Files = api.DiskFull, true, some(14, 100) })} {
		for i := range api.Load {
			for n := range 256 {
				l := form(c)
				l.Load[i] = byte(n)
				got, ok := catalog.Get(l)
				if ok && (!catalog.Right(got) || form(got) != l) || !ok && !same(got, api.Catalog{}) {
					t.Fatalf("byte %d is %d: Get = %v, %v", i, n, got, ok)
				}
				if ok {
					good++
				}
			}
		}
	}
	if good < 1000 {
		t.Fatalf("%d leaves only", good)
	}
}

// P6.4.
func TestFind(t *testing.T) {
	for _, c := range rights() {
		for _, f := range c.Files {
			if got, ok := catalog.Find(c, f.Name); !ok || got != f {
				t.Fatalf("Find(%v, %d) = %v, %v", c, f.Name, got, ok)
			}
		}
		for name := range 257 {
			is := slices.ContainsFunc(c.Files, func(f api.File) bool { return f.Name == name })
			if got, ok := catalog.Find(c, name); ok != is || !ok && got != (api.File{}) || ok && got.Name != name {
				t.Fatalf("Find(%v, %d) = %v, %v", c, name, got, ok)
			}
		}
	}
}

// P6.4: wrong inputs: names that no file has, and files behind the length.
func TestFindOfNoNames(t *testing.T) {
	for _, n := range append([]int{0, 1, 4, 6, 8, 10, 255, 256, 261, 65541}, farOff...) {
		if f, ok := catalog.Find(ordinary(), n); ok || f != (api.File{}) {
			t.Errorf("Find of %d = %v, %v", n, f, ok)
		}
		if f, ok := catalog.Find(api.Catalog{}, n); ok || f != (api.File{}) {
			t.Errorf("Find of %d in none = %v, %v", n, f, ok)
		}
	}
	c := ordinary()
	c.Files = c.Files[:1]
	if f, ok := catalog.Find(c, 9); ok || f != (api.File{}) {
		t.Errorf("Find behind the length = %v, %v", f, ok)
	}
}

// with is the files of With, by another way than the package's: name by name.
func with(files, put []api.File, gone []int) []api.File {
	var names []int
	for _, f := range slices.Concat(files, put) {
		names = append(names, f.Name)
	}
	slices.Sort(names)
	var out []api.File
	for _, name := range slices.Compact(names) {
		is := func(f api.File) bool { return f.Name == name }
		var last []api.File
		for _, f := range put {
			if is(f) {
				last = []api.File{f}
			}
		}
		if len(last) == 0 && !slices.Contains(gone, name) {
			for _, f := range files {
				if is(f) {
					last = append(last, f)
				}
			}
		}
		out = append(out, last...)
	}
	return out
}

// P6.4.
func TestWith(t *testing.T) {
	f := func(name, file int) api.File { return api.File{Name: name, File: file, First: file, Blocks: name} }
	c := ordinary()
	five, nine := c.Files[0], c.Files[1]
	for i, q := range []struct {
		put  []api.File
		gone []int
		want []api.File
	}{
		{nil, nil, []api.File{five, nine}},
		{[]api.File{}, []int{}, []api.File{five, nine}},
		{[]api.File{f(1, 7)}, nil, []api.File{f(1, 7), five, nine}},
		{[]api.File{f(7, 7)}, nil, []api.File{five, f(7, 7), nine}},
		{[]api.File{f(12, 7)}, nil, []api.File{five, nine, f(12, 7)}},
		{[]api.File{f(5, 7)}, nil, []api.File{f(5, 7), nine}},
		{[]api.File{f(9, 7), f(5, 8)}, nil, []api.File{f(5, 8), f(9, 7)}},
		{[]api.File{f(3, 7), f(3, 8)}, nil, []api.File{f(3, 8), five, nine}},
		{[]api.File{f(5, 7), f(2, 1), f(5, 8), f(2, 9), f(5, 6)}, nil, []api.File{f(2, 9), f(5, 6), nine}},
		{nil, []int{5}, []api.File{nine}},
		{nil, []int{9}, []api.File{five}},
		{nil, []int{9, 5, 9}, nil},
		{nil, []int{0, 4, 6, -1, 261, math.MinInt, math.MaxInt}, []api.File{five, nine}},
		{[]api.File{f(5, 7)}, []int{5}, []api.File{f(5, 7), nine}},
		{[]api.File{f(3, 7)}, []int{3, 9}, []api.File{f(3, 7), five}},
		{[]api.File{f(5, 7), f(3, 1), f(5, 8)}, []int{5, 9, 3, 77}, []api.File{f(3, 1), f(5, 8)}},
	} {
		got := catalog.With(c, q.put, q.gone...)
		want := c
		want.Files = q.want
		if !same(got, want) || !slices.Equal(with(c.Files, q.put, q.gone), q.want) {
			t.Errorf("%d: With = %v", i, got)
		}
		if !same(c, ordinary()) {
			t.Fatalf("%d: With changes what it is given", i)
		}
	}
}

// P6.4: all but the files stays; of no files too.
func TestWithKeepsTheRest(t *testing.T) {
	for _, c := range append(rights(), wrongs()...) {
		got := catalog.With(c, []api.File{{Name: 60, File: 3}, {Name: 9, File: 4}}, 5, 6)
		want := c
		want.Files = with(c.Files, []api.File{{Name: 60, File: 3}, {Name: 9, File: 4}}, []int{5, 6})
		if !same(got, want) {
			t.Fatalf("With of %v = %v, not %v", c, got, want)
		}
	}
}

// P6.4: lists of all kinds, names that come again and again among them; of a third
// of the catalogs the names don't rise.
func TestWithOfManyLists(t *testing.T) {
	seed := uint64(1)
	next := func(n int) int {
		seed = seed*6364136223846793005 + 1442695040888963407
		return int(seed>>33) % n
	}
	list := func(n, names int) []api.File {
		var files []api.File
		for range n {
			files = append(files, api.File{Name: next(names), File: 1 + next(65535), First: next(9), Blocks: next(9)})
		}
		return files
	}
	for i := range 3000 {
		names := 1 + next(30)
		c := but(func(c *api.Catalog) { c.Files = list(next(40), names) })
		if i%3 > 0 {
			slices.SortFunc(c.Files, func(a, b api.File) int { return cmp.Compare(a.Name, b.Name) })
			c.Files = slices.CompactFunc(c.Files, func(a, b api.File) bool { return a.Name == b.Name })
		}
		put := list(next(40), names)
		var gone []int
		for range next(10) {
			gone = append(gone, next(names+2)-1)
		}
		got := catalog.With(c, put, gone...)
		if want := with(c.Files, put, gone); !slices.Equal(got.Files, want) {
			t.Fatalf("With(%v, %v, %v) = %v, not %v", c, put, gone, got, want)
		}
	}
}

// P6.4: files that aren't by rising names, two of one name among them, come by
// rising names all the same, in their order where names are equal.
func TestWithOfWrongCatalogs(t *testing.T) {
	c := but(func(c *api.Catalog) {
		c.Files = []api.File{{Name: 9, File: 1}, {Name: 3, File: 2}, {Name: 9, File: 3}, {Name: -1, File: 4}, {Name: 3, File: 5}, {Name: 300, File: 6}}
	})
	got := catalog.With(c, []api.File{{Name: 5, File: 7}, {Name: 300, File: 8}}, -1)
	want := []api.File{{Name: 3, File: 2}, {Name: 3, File: 5}, {Name: 5, File: 7}, {Name: 9, File: 1}, {Name: 9, File: 3}, {Name: 300, File: 8}}
	if !slices.Equal(got.Files, want) {
		t.Errorf("With = %v", got)
	}
	if f, ok := catalog.Find(c, 3); !ok || f.File != 2 {
		t.Errorf("Find = %v, %v", f, ok)
	}
}

// P6.4: nothing handed in is written, its spare room included, and nothing that
// is handed out is shared with it.
func TestWithIsNewMemory(t *testing.T) {
	room := append(some(6, 20), api.File{Name: 1}, api.File{Name: 2})
	putRoom := append(some(5, 18), api.File{Name: 3}, api.File{Name: 4})
	slices.Reverse(putRoom)
	goneRoom := []int{25, 24, 23, 1, 2}
	keptFiles, keptPut, keptGone := slices.Clone(room), slices.Clone(putRoom), slices.Clone(goneRoom)
	unchanged := func() bool {
		return slices.Equal(room, keptFiles) && slices.Equal(putRoom, keptPut) && slices.Equal(goneRoom, keptGone)
	}
	for files := range 7 {
		for put := range 6 {
			for gone := range 4 {
				c := but(func(c *api.Catalog) { c.Files = room[:files] })
				first := catalog.With(c, putRoom[:put], goneRoom[:gone]...)
				second := catalog.With(c, putRoom[:put], goneRoom[:gone]...)
				want := with(room[:files], putRoom[:put], goneRoom[:gone])
				whole := first.Files[:cap(first.Files)]
				for i := range whole {
					whole[i] = api.File{Name: -1}
				}
				if !slices.Equal(second.Files, want) || !unchanged() {
					t.Fatalf("%d files, %d put, %d gone: memory is shared", files, put, gone)
				}
			}
		}
	}
}

// P6.4: files that are changed later change no answer.
func TestWithKeepsNothing(t *testing.T) {
	c := ordinary()
	put := []api.File{{Name: 6, File: 1}}
	gone := []int{9}
	got := catalog.With(c, put, gone...)
	want := []api.File{c.Files[0], put[0]}
	c.Files[0], put[0], gone[0] = api.File{}, api.File{}, 5
	if !slices.Equal(got.Files, want) {
		t.Errorf("With = %v", got)
	}
}
