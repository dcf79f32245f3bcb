package sets

import (
	"math"
	"slices"
	"testing"
)

// alike tells whether two lists of groups are alike.
func alike[T comparable](a, b [][]T) bool {
	return slices.EqualFunc(a, b, slices.Equal[[]T])
}

// plain is sets kept in the plainest way: a list of things as they came, and the number of each one's group.
type plain struct {
	things, numbers []int
	next            int
}

func (p *plain) number(x int) (int, bool) {
	at := slices.Index(p.things, x)
	if at < 0 {
		return 0, false
	}
	return p.numbers[at], true
}

func (p *plain) add(x int) bool {
	if slices.Contains(p.things, x) {
		return false
	}
	p.things = append(p.things, x)
	p.numbers = append(p.numbers, p.next)
	p.next++
	return true
}

func (p *plain) join(x, y int) bool {
	p.add(x)
	p.add(y)
	a, _ := p.number(x)
	b, _ := p.number(y)
	for at, n := range p.numbers {
		if n == b {
			p.numbers[at] = a
		}
	}
	return a != b
}

func (p *plain) same(x, y int) bool {
	a, foundX := p.number(x)
	b, foundY := p.number(y)
	return foundX && foundY && a == b
}

func (p *plain) groups() [][]int {
	var groups [][]int
	var met []int
	for at, x := range p.things {
		g := slices.Index(met, p.numbers[at])
		if g < 0 {
			g = len(met)
			met = append(met, p.numbers[at])
			groups = append(groups, nil)
		}
		groups[g] = append(groups[g], x)
	}
	return groups
}

func (p *plain) head(x int) (int, bool) {
	for _, g := range p.groups() {
		if slices.Contains(g, x) {
			return g[0], true
		}
	}
	return 0, false
}

// compare tells of everything that s answers otherwise than p.
func compare(t *testing.T, s *Sets[int], p *plain, things []int) {
	t.Helper()
	groups := p.groups()
	if s.Len() != len(p.things) || s.Count() != len(groups) || !alike(s.Groups(), groups) {
		t.Fatalf("Len = %d, Count = %d, Groups = %v; want %v", s.Len(), s.Count(), s.Groups(), groups)
	}
	for _, x := range things {
		head, ok := s.Head(x)
		if want, there := p.head(x); head != want || ok != there {
			t.Fatalf("%v: Head(%d) = %d, %v", groups, x, head, ok)
		}
		for _, y := range things {
			if s.Same(x, y) != p.same(x, y) {
				t.Fatalf("%v: Same(%d, %d) = %v", groups, x, y, s.Same(x, y))
			}
		}
	}
}

// Promise 3.1: New, Len, Count.

func TestNew(t *testing.T) {
	for _, c := range []struct {
		l    []string
		want [][]string
	}{
		{nil, nil}, {[]string{}, nil}, {[]string{""}, [][]string{{""}}}, {[]string{"b", "a"}, [][]string{{"b"}, {"a"}}},
		// Things that stand twice are there once, where they came first.
		{[]string{"a", "a"}, [][]string{{"a"}}}, {[]string{"a", "b", "a", "c"}, [][]string{{"a"}, {"b"}, {"c"}}}, {[]string{"c", "b", "b", "a", "c", "b"}, [][]string{{"c"}, {"b"}, {"a"}}},
	} {
		s := New(c.l...)
		if s == nil || s.Len() != len(c.want) || s.Count() != len(c.want) || !alike(s.Groups(), c.want) {
			t.Errorf("New(%q): Groups = %q, Len = %d, Count = %d", c.l, s.Groups(), s.Len(), s.Count())
		}
		for _, x := range c.l {
			if head, ok := s.Head(x); head != x || !ok || !s.Same(x, x) {
				t.Errorf("New(%q): Head(%q) = %q, %v", c.l, x, head, ok)
			}
		}
	}
}

func TestNewOfNothing(t *testing.T) {
	s := New[int]()
	if s == nil || s.Len() != 0 || s.Count() != 0 || len(s.Groups()) != 0 || s.Same(0, 0) {
		t.Fatalf("New(): %v", s.Groups())
	}
	if x, ok := s.Head(0); x != 0 || ok {
		t.Errorf("Head = %d, %v", x, ok)
	}
	if !s.Add(0) || s.Add(0) || !s.Join(1, 2) || s.Len() != 3 || s.Count() != 2 {
		t.Errorf("what was put in: %v", s.Groups())
	}
}

// Promise 3.1: Add.

func TestAdd(t *testing.T) {
	s := New(5, 3)
	for _, c := range []struct {
		x    int
		want bool
		n    int
	}{{5, false, 2}, {3, false, 2}, {0, true, 3}, {0, false, 3}, {-1, true, 4}, {math.MinInt, true, 5}, {-1, false, 5}} {
		if s.Add(c.x) != c.want || s.Len() != c.n || s.Count() != c.n || !s.Same(c.x, c.x) {
			t.Errorf("Add(%d) isn't %v, or then Len = %d, Count = %d", c.x, c.want, s.Len(), s.Count())
		}
	}
	if want := [][]int{{5}, {3}, {0}, {-1}, {math.MinInt}}; !alike(s.Groups(), want) {
		t.Errorf("Groups = %v", s.Groups())
	}
}

func TestAddOfWhatWasJoined(t *testing.T) {
	s := New(1, 2, 3)
	s.Join(3, 1)
	if s.Add(3) || s.Add(1) || !s.Same(1, 3) || s.Count() != 2 || s.Len() != 3 {
		t.Errorf("things that were joined are put in anew: %v", s.Groups())
	}
	if !s.Add(4) || s.Same(4, 1) || s.Same(4, 2) || s.Count() != 3 {
		t.Errorf("a thing that was put in isn't by itself: %v", s.Groups())
	}
}

// Promise 3.1: Join.

func TestJoin(t *testing.T) {
	for _, c := range []struct {
		l          []int
		joins      [][2]int
		want       bool
		count, len int
	}{
		{[]int{1, 2, 3}, [][2]int{{3, 1}}, true, 2, 3},
		{[]int{1, 2, 3}, [][2]int{{3, 1}, {1, 3}}, false, 2, 3},
		{[]int{1, 2, 3}, [][2]int{{3, 1}, {3, 1}}, false, 2, 3},
		{[]int{1, 2, 3}, [][2]int{{1, 2}, {2, 3}}, true, 1, 3},
		{[]int{1, 2, 3}, [][2]int{{1, 2}, {2, 3}, {1, 3}}, false, 1, 3},
		{[]int{1, 2, 3, 4}, [][2]int{{1, 2}, {3, 4}, {2, 4}}, true, 1, 4},
		{[]int{1, 2, 3, 4}, [][2]int{{1, 2}, {3, 4}, {2, 4}, {1, 3}}, false, 1, 4},
		// Things that aren't there yet.
		{nil, [][2]int{{7, 8}}, true, 1, 2}, {[]int{7}, [][2]int{{7, 8}}, true, 1, 2}, {[]int{8}, [][2]int{{7, 8}}, true, 1, 2}, {[]int{1, 2}, [][2]int{{1, 2}, {3, 2}}, true, 1, 3},
		// A thing with itself.
		{[]int{1}, [][2]int{{1, 1}}, false, 1, 1}, {nil, [][2]int{{1, 1}}, false, 1, 1}, {[]int{1}, [][2]int{{2, 2}}, false, 2, 2}, {nil, [][2]int{{0, 0}}, false, 1, 1},
		{[]int{1, 2}, [][2]int{{1, 2}, {2, 2}}, false, 1, 2},
	} {
		s := New(c.l...)
		var got bool
		for _, j := range c.joins {
			got = s.Join(j[0], j[1])
			if !s.Same(j[0], j[1]) || !s.Same(j[1], j[0]) {
				t.Errorf("New of %v, Join %v: %v aren't together", c.l, c.joins, j)
			}
		}
		if got != c.want || s.Count() != c.count || s.Len() != c.len {
			t.Errorf("New of %v, Join %v: %v; Count = %d, Len = %d", c.l, c.joins, got, s.Count(), s.Len())
		}
	}
}

// Promise 3.1: Same.

func TestSame(t *testing.T) {
	s := New("a", "b", "c", "")
	s.Join("c", "d")
	s.Join("d", "a")
	for _, c := range []struct {
		x, y string
		want bool
	}{
		{"a", "a", true}, {"b", "b", true}, {"a", "c", true}, {"c", "a", true}, {"a", "d", true}, {"d", "c", true}, {"", "", true},
		{"a", "b", false}, {"b", "d", false}, {"", "a", false},
		// Of what isn't there nothing belongs together, not even with itself.
		{"x", "x", false}, {"a", "x", false}, {"x", "a", false}, {"x", "y", false},
	} {
		if s.Same(c.x, c.y) != c.want {
			t.Errorf("Same(%q, %q) isn't %v", c.x, c.y, c.want)
		}
	}
	if s.Len() != 5 || s.Count() != 3 {
		t.Errorf("to ask has put things in: %q", s.Groups())
	}
}

// Promise 3.2: Groups.

func TestGroups(t *testing.T) {
	for _, c := range []struct {
		l     []int
		joins [][2]int
		want  [][]int
	}{
		{[]int{1, 2, 3}, [][2]int{{3, 1}, {1, 3}}, [][]int{{1, 3}, {2}}},
		// Not by their greatness, but as they came.
		{[]int{9, 4, 7, 1}, nil, [][]int{{9}, {4}, {7}, {1}}},
		{[]int{9, 4, 7, 1}, [][2]int{{1, 4}}, [][]int{{9}, {4, 1}, {7}}},
		{[]int{9, 4, 7, 1}, [][2]int{{1, 7}, {7, 9}}, [][]int{{9, 7, 1}, {4}}},
		// Not as they were joined.
		{[]int{1, 2, 3, 4, 5}, [][2]int{{5, 4}, {4, 2}, {3, 1}}, [][]int{{1, 3}, {2, 4, 5}}},
		{[]int{1, 2, 3, 4, 5}, [][2]int{{4, 5}, {2, 3}, {5, 3}, {3, 1}}, [][]int{{1, 2, 3, 4, 5}}},
		{[]int{1, 2, 3, 4, 5, 6}, [][2]int{{6, 5}, {5, 4}, {2, 3}, {4, 2}}, [][]int{{1}, {2, 3, 4, 5, 6}}},
		// What Join puts in comes as it is named, behind what was there.
		{[]int{3}, [][2]int{{2, 1}, {0, 3}}, [][]int{{3, 0}, {2, 1}}},
		{nil, [][2]int{{2, 1}, {4, 3}, {5, 5}, {6, 1}}, [][]int{{2, 1, 6}, {4, 3}, {5}}},
	} {
		s := New(c.l...)
		for _, j := range c.joins {
			s.Join(j[0], j[1])
		}
		if !alike(s.Groups(), c.want) || !alike(s.Groups(), c.want) {
			t.Errorf("New of %v, Join %v: Groups = %v, want %v", c.l, c.joins, s.Groups(), c.want)
		}
		for _, g := range c.want {
			for _, x := range g {
				if head, ok := s.Head(x); head != g[0] || !ok {
					t.Errorf("New of %v, Join %v: Head(%d) = %d, %v", c.l, c.joins, x, head, ok)
				}
			}
		}
	}
}

// Promise 3.2: Head.

func TestHead(t *testing.T) {
	s := New("b", "a", "c")
	s.Join("c", "a")
	for _, c := range []struct {
		x, want string
		ok      bool
	}{{"b", "b", true}, {"a", "a", true}, {"c", "a", true}, {"d", "", false}, {"", "", false}} {
		if head, ok := s.Head(c.x); head != c.want || ok != c.ok {
			t.Errorf("Head(%q) = %q, %v", c.x, head, ok)
		}
	}
	s.Join("c", "d")
	s.Join("d", "b")
	for _, x := range []string{"a", "b", "c", "d"} {
		if head, ok := s.Head(x); head != "b" || !ok {
			t.Errorf("Head(%q) = %q, %v", x, head, ok)
		}
	}
	if s.Len() != 4 {
		t.Errorf("to ask has put things in: %q", s.Groups())
	}
}

// Promises 3.1 and 3.2: nil sets.

func TestNil(t *testing.T) {
	var s *Sets[int]
	for range 2 {
		if s.Add(1) || s.Join(1, 2) || s.Join(1, 1) || s.Same(1, 1) || s.Same(0, 0) || s.Len() != 0 || s.Count() != 0 || len(s.Groups()) != 0 {
			t.Errorf("nil sets have something")
		}
		for _, x := range []int{0, 1} {
			if head, ok := s.Head(x); head != 0 || ok {
				t.Errorf("Head(%d) = %d, %v", x, head, ok)
			}
		}
	}
}

// Promise 3.3, and all the others against the plain way: all beginnings of at most two things, and all ways to join three times.

func TestAllShortWays(t *testing.T) {
	things := []int{0, 1, 2, 3}
	beginnings := [][]int{nil}
	for _, x := range things {
		beginnings = append(beginnings, []int{x})
		for _, y := range things {
			beginnings = append(beginnings, []int{x, y})
		}
	}
	const ways = 16 * 16 * 16
	for _, l := range beginnings {
		for way := range ways {
			s, p := New(l...), &plain{}
			for _, x := range l {
				p.add(x)
			}
			for rest := way; rest > 0; rest /= 16 {
				joinBoth(t, s, p, rest/4%4, rest%4)
			}
			compare(t, s, p, things)
		}
	}
}

// joinBoth joins two things in s and in p, and holds what Join answers against how many groups there are.
func joinBoth(t *testing.T, s *Sets[int], p *plain, x, y int) {
	t.Helper()
	s.Add(x)
	s.Add(y)
	before := s.Count()
	joined := s.Join(x, y)
	less := before - s.Count()
	if joined != p.join(x, y) || joined && less != 1 || !joined && less != 0 {
		t.Fatalf("Join(%d, %d) = %v, with %d groups less: %v", x, y, joined, less, s.Groups())
	}
}

func TestLongWay(t *testing.T) {
	const n = 40
	things := make([]int, n)
	for i := range things {
		things[i] = i
	}
	for _, step := range []int{1, 3, 7, 11, 19} {
		s, p := New[int](), &plain{}
		for i := range 3 * n {
			x, y := i*step%n, (i*i+step)%n
			switch i % 3 {
			case 0:
				if s.Add(x) != p.add(x) {
					t.Fatalf("Add(%d)", x)
				}
			case 1:
				if s.Join(x, y) != p.join(x, y) {
					t.Fatalf("Join(%d, %d)", x, y)
				}
			default:
				joinBoth(t, s, p, y, y/2)
			}
			compare(t, s, p, things)
		}
	}
}

func TestGoesBothWaysAndOn(t *testing.T) {
	things := []int{0, 1, 2, 3, 4, 5, 6}
	s := New(things[:6]...)
	for _, j := range [][2]int{{5, 2}, {1, 0}, {2, 4}, {3, 3}} {
		s.Join(j[0], j[1])
		for _, x := range things {
			for _, y := range things {
				if s.Same(x, y) != s.Same(y, x) {
					t.Errorf("Same(%d, %d) isn't Same(%d, %d)", x, y, y, x)
				}
				for _, z := range things {
					if s.Same(x, y) && s.Same(y, z) && !s.Same(x, z) {
						t.Errorf("%d and %d, %d and %d are together, %d and %d aren't", x, y, y, z, x, z)
					}
				}
			}
		}
	}
}

func TestManyThings(t *testing.T) {
	const n = 1 << 18
	for _, order := range []func(i int) (int, int){
		func(i int) (int, int) { return i, i + 1 },
		func(i int) (int, int) { return i + 1, i },
		func(i int) (int, int) { return n - 2 - i, n - 1 - i },
		func(i int) (int, int) { return 0, n - 1 - i },
		func(i int) (int, int) { return n - 1, i },
	} {
		s := New[int]()
		for x := range n {
			s.Add(x)
		}
		for i := range n - 1 {
			x, y := order(i)
			if !s.Join(x, y) || !s.Same(n-1, n-1) {
				t.Fatalf("Join(%d, %d) is false", x, y)
			}
		}
		for x := range n {
			if head, ok := s.Head(x); head != 0 || !ok || !s.Same(x, n-1-x) {
				t.Fatalf("Head(%d) = %d, %v", x, head, ok)
			}
		}
		if g := s.Groups(); s.Count() != 1 || s.Len() != n || len(g) != 1 || !slices.IsSorted(g[0]) || len(g[0]) != n {
			t.Errorf("Count = %d, Len = %d", s.Count(), s.Len())
		}
	}
}

// Rule 4: what is handed in isn't changed and isn't kept, and no two lists share memory.

func TestHandedInIsLeft(t *testing.T) {
	room := []int{3, 1, 3, 2, -7, -8}
	l := room[:4]
	s := New(l...)
	s.Join(2, 5)
	s.Groups()
	s.Add(6)
	if !slices.Equal(room, []int{3, 1, 3, 2, -7, -8}) {
		t.Errorf("what was handed in is changed: %v", room)
	}
	for i := range room {
		room[i] = 99
	}
	if want := [][]int{{3}, {1}, {2, 5}, {6}}; !alike(s.Groups(), want) || s.Same(99, 99) || s.Add(3) {
		t.Errorf("what was handed in is kept: %v", s.Groups())
	}
}

func TestAnswersShareNothing(t *testing.T) {
	s := New(1, 2, 3, 4, 5)
	s.Join(1, 4)
	s.Join(2, 5)
	want := [][]int{{1, 4}, {2, 5}, {3}}
	earlier, later := s.Groups(), s.Groups()
	spoil := func(groups [][]int) {
		for i, g := range groups {
			// Each list is filled, spare room included, with a number of its own: one that is shared shows another's.
			g = g[:cap(g)]
			for j := range g {
				g[j] = -1 - i
			}
		}
		for i, g := range groups {
			for _, x := range g[:cap(g)] {
				if x != -1-i {
					t.Errorf("list %d of an answer shares memory with another", i)
				}
			}
		}
		room := groups[:cap(groups)]
		for i := range room {
			room[i] = nil
		}
	}
	spoil(earlier)
	if !alike(later, want) || !alike(s.Groups(), want) {
		t.Errorf("a later answer, or the object, shares memory with an earlier one: %v, %v", later, s.Groups())
	}
	s.Join(3, 6)
	s.Join(6, 1)
	if !alike(later, want) {
		t.Errorf("an answer is changed behind the call: %v", later)
	}
	if head, ok := s.Head(4); head != 1 || !ok || s.Len() != 6 || s.Count() != 2 {
		t.Errorf("Head(4) = %d, %v", head, ok)
	}
}

func TestTwoObjectsAreApart(t *testing.T) {
	l := []int{1, 2, 3}
	a, b := New(l...), New(l...)
	a.Join(1, 2)
	a.Add(4)
	if b.Len() != 3 || b.Count() != 3 || b.Same(1, 2) || b.Same(4, 4) {
		t.Errorf("what one has been through is seen in another: %v", b.Groups())
	}
}

// Rule 1: no call panics, whatever the things are.

func TestOtherKindsOfThings(t *testing.T) {
	type dart struct{ edge, end int }
	s := New(dart{1, 0}, dart{1, 1})
	if !s.Join(dart{2, 0}, dart{1, 1}) || s.Same(dart{1, 0}, dart{1, 1}) || !s.Same(dart{1, 1}, dart{2, 0}) {
		t.Errorf("structs: %v", s.Groups())
	}
	a, b := new(int), new(int)
	p := New(a, b, nil, a)
	if p.Len() != 3 || !p.Join(nil, b) || p.Same(a, b) {
		t.Errorf("pointers: %v", p.Groups())
	}
	if head, ok := p.Head(nil); head != b || !ok {
		t.Errorf("Head(nil) = %p, %v", head, ok)
	}
}

func TestThingsThatAreNoKeys(t *testing.T) {
	for _, bad := range []any{[]int{1}, map[int]int{}, func() {}, [1]any{[]int{}}, struct{ x any }{[]int{}}} {
		s := New[any](1, bad, "a", bad)
		if s.Len() != 2 || s.Count() != 2 || s.Add(bad) || s.Join(1, bad) || s.Join(bad, "b") || s.Join(bad, bad) || s.Same(bad, bad) || s.Same(1, bad) {
			t.Errorf("what is no key is put in: %v", s.Groups())
		}
		if head, ok := s.Head(bad); head != nil || ok {
			t.Errorf("Head = %v, %v", head, ok)
		}
		// Refused calls have changed nothing: "b" isn't there.
		if s.Len() != 2 || s.Same("b", "b") || !s.Add("b") || !s.Join(1, "b") || !s.Same("b", 1) {
			t.Errorf("a refused call has changed something: %v", s.Groups())
		}
		if s := New(bad); s.Len() != 0 || s.Add(bad) || s.Join(bad, bad) {
			t.Errorf("what is no key is put in: %v", s.Groups())
		}
	}
}

func TestThingsThatAreNotThemselves(t *testing.T) {
	// NaN isn't NaN: each one is another thing, and none is found again.
	nan := math.NaN()
	s := New(nan, 1, nan)
	if s.Len() != 3 || !s.Add(nan) || !s.Join(nan, nan) || s.Same(nan, nan) || s.Len() != 6 || s.Count() != 5 || len(s.Groups()) != 5 {
		t.Errorf("NaN: %v", s.Groups())
	}
	if head, ok := s.Head(nan); head != 0 || ok {
		t.Errorf("Head(NaN) = %v, %v", head, ok)
	}
}
