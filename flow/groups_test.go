package flow_test

import (
	"slices"
	"testing"

	"sheaf/flow"
)

// parted is l in its groups, as the chapter parts it.
func parted[T any](l []T, same func(a, b T) bool) [][]T {
	var out [][]T
	begin := 0
	for i := range l {
		if i > begin && !same(l[begin], l[i]) {
			out = append(out, l[begin:i])
			begin = i
		}
	}
	if len(l) > 0 {
		out = append(out, l[begin:])
	}
	return out
}

func holdsGroups[T comparable](t *testing.T, l []T, same func(a, b T) bool, want ...[]T) {
	t.Helper()
	s := flow.Groups(flow.From(l), same)
	for range 2 {
		if got := flow.List(s); !slices.EqualFunc(got, want, slices.Equal[[]T]) {
			t.Errorf("Groups of %v are %v, not %v", l, got, want)
		}
	}
	for stop := 1; stop <= len(want); stop++ {
		if got := some(s, stop); !slices.EqualFunc(got, want[:stop], slices.Equal[[]T]) {
			t.Errorf("Groups of %v, left at %d, are %v, not %v", l, stop, got, want[:stop])
		}
	}
}

// P10.2: the chapter's run; no group, one, none alike, all alike.
func TestGroups(t *testing.T) {
	holdsGroups(t, []int{1, 1, 2, 1}, equal, []int{1, 1}, []int{2}, []int{1})
	holdsGroups(t, nil, equal)
	holdsGroups(t, []int{}, equal)
	holdsGroups(t, []int{5}, equal, []int{5})
	holdsGroups(t, []int{0}, equal, []int{0})
	holdsGroups(t, []int{3, 3, 3}, equal, []int{3, 3, 3})
	holdsGroups(t, []int{3, 1, 2}, equal, []int{3}, []int{1}, []int{2})
	holdsGroups(t, []int{1, 2, 2}, equal, []int{1}, []int{2, 2})
	holdsGroups(t, []string{"a", "a", "", ""}, func(a, b string) bool { return a == b }, []string{"a", "a"}, []string{"", ""})
	holdsGroups(t, []point{{1, "a"}, {1, "b"}, {2, "b"}}, func(a, b point) bool { return a.x == b.x },
		[]point{{1, "a"}, {1, "b"}}, []point{{2, "b"}})
}

// P10.2: it is the group's first one that says who belongs to it, not the one ahead; and
// it is handed first.
func TestGroupsFirstSays(t *testing.T) {
	holdsGroups(t, []int{0, 2, 4, 5, 7}, func(a, b int) bool { return b-a < 3 }, []int{0, 2}, []int{4, 5}, []int{7})
	holdsGroups(t, []int{1, 2, 3, 4}, func(a, b int) bool { return a+1 == b }, []int{1, 2}, []int{3, 4})
	holdsGroups(t, []int{5, 1, 4, 6, 2, 7}, func(a, b int) bool { return a > b }, []int{5, 1, 4}, []int{6, 2}, []int{7})
	holdsGroups(t, []int{5, 6, 4, 7, 3}, func(a, b int) bool { return a < b }, []int{5, 6}, []int{4, 7}, []int{3})
}

// P10.2: nothing is done ahead; a group is yielded as soon as the next one begins, or s
// ends.
func TestGroupsAsks(t *testing.T) {
	var d diary
	s := flow.Groups(d.below(1, 1, 2, 3, 3), func(a, b int) bool {
		d.tell("same", a, b)
		return a == b
	})
	d.holds(t, "")
	for range 2 {
		for g := range s {
			d.tell("group", g...)
		}
		d.holds(t, "begun, asked 1, asked 1, same 1 1, asked 2, same 1 2, group 1 1, "+
			"asked 3, same 2 3, group 2, asked 3, same 3 3, ended, group 3 3")
	}
	for g := range s {
		d.tell("group", g...)
		break
	}
	d.holds(t, "begun, asked 1, asked 1, same 1 1, asked 2, same 1 2, group 1 1, left")
}

// P10.2, R2: each group is a list of its own, its spare room too; one that is changed by
// who got it, at once or later, touches no other.
func TestGroupsOwn(t *testing.T) {
	for range 2 {
		own := []int{1, 1, 1, 2, 2, 2, 3}
		s := flow.Groups(flow.From(own), equal)
		var got [][]int
		for g := range s {
			if n := len(got); n > 0 {
				spoil(got[n-1])
			}
			got = append(got, g)
			g[0] = 7
		}
		if !slices.EqualFunc(got[2:], [][]int{{7}}, slices.Equal[[]int]) || !slices.Equal(own, []int{1, 1, 1, 2, 2, 2, 3}) {
			t.Error(got, own)
		}
		list := flow.List(s)
		for i := range list {
			spoil(list[i])
			for j, g := range list[i+1:] {
				if !slices.Equal(g, parted(own, equal)[i+1+j]) {
					t.Errorf("group %d has changed with group %d: %v", i+1+j, i, g)
				}
			}
		}
		if !slices.EqualFunc(flow.List(s), parted(own, equal), slices.Equal[[]int]) {
			t.Error(flow.List(s))
		}
	}
}

// spoil writes over g and its spare room.
func spoil(g []int) {
	g = g[:cap(g)]
	for i := range g {
		g[i] = 99
	}
}

// P10.2: two ranges over one Groups at a time don't disturb each other.
func TestGroupsWithinGroups(t *testing.T) {
	s := flow.Groups(flow.From([]int{1, 1, 2}), equal)
	var got []int
	for a := range s {
		for b := range s {
			got = append(got, 10*len(a)+len(b))
		}
	}
	if !slices.Equal(got, []int{22, 21, 12, 11}) {
		t.Error(got)
	}
}

// P10.2: of any list and any same, that is none too, Groups are the chapter's, and end.
func TestGroupsOfAnySame(t *testing.T) {
	var source noise = 20
	for range 500 {
		var says [4][4]bool
		for a := range says {
			for b := range says[a] {
				says[a][b] = source.below(2) == 0
			}
		}
		same := func(a, b int) bool { return says[a][b] }
		l := source.list(source.below(10), 4)
		holdsGroups(t, l, same, parted(l, same)...)
	}
}

// P10.2: a same that says another thing each time, too: all ends, and nothing is lost.
func TestGroupsOfNoSame(t *testing.T) {
	var source noise = 30
	for range 200 {
		l := source.list(source.below(10), 4)
		var got []int
		for g := range flow.Groups(flow.From(l), func(a, b int) bool { return source.below(2) == 0 }) {
			if len(g) == 0 {
				t.Fatal("a group of nothing")
			}
			got = append(got, g...)
		}
		if !slices.Equal(got, l) {
			t.Fatalf("%v has become %v", l, got)
		}
	}
}

// P10.2: many in one group, and many groups.
func TestGroupsOfMany(t *testing.T) {
	l := upTo(5000)
	if g := flow.List(flow.Groups(flow.From(l), func(a, b int) bool { return true })); len(g) != 1 || !slices.Equal(g[0], l) {
		t.Error(len(g))
	}
	if g := flow.List(flow.Groups(flow.From(l), equal)); len(g) != 5000 || !slices.Equal(slices.Concat(g...), l) {
		t.Error(len(g))
	}
}
