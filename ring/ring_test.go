package ring

import (
	"math"
	"slices"
	"testing"

	"tracery/sample"
)

// begunAt answers l, begun at a place, taken number by number.
func begunAt(l []int, at int) []int {
	var m []int
	for i := range l {
		m = append(m, l[(at+i)%len(l)])
	}
	return m
}

// placeOf answers the first place of x, or -1.
func placeOf(l []int, x int) int {
	for i := range l {
		if l[i] == x {
			return i
		}
	}
	return -1
}

const (
	least    = math.MinInt
	greatest = math.MaxInt
)

// Promise 2.1: Right.

func TestRight(t *testing.T) {
	for _, l := range [][]int{nil, {}, {0}, {-1}, {1, 2}, {2, 1}, {3, 1, 2}, {4, 9, 2, 7}, {0, -1, 1}, {least, greatest, 0}} {
		if !Right(l) {
			t.Errorf("Right(%v) is false", l)
		}
	}
	for _, l := range [][]int{{1, 1}, {0, 0, 0}, {1, 2, 1}, {1, 1, 2}, {2, 1, 1}, {5, 3, 4, 3}, {-1, 1, -1}, {least, 0, least}, {greatest, greatest}} {
		if Right(l) {
			t.Errorf("Right(%v) is true", l)
		}
	}
}

func TestRightOfShortLists(t *testing.T) {
	for _, l := range sample.Lists(5, 0, 1, 2, 3) {
		want := true
		for i, x := range l {
			want = want && placeOf(l, x) == i
		}
		if Right(l) != want {
			t.Errorf("Right(%v) = %v", l, Right(l))
		}
	}
}

// Promise 2.1: First.

func TestFirst(t *testing.T) {
	for _, c := range []struct{ l, want []int }{
		{nil, nil}, {[]int{}, nil}, {[]int{7}, []int{7}},
		{[]int{3, 1, 2}, []int{1, 2, 3}}, {[]int{4, 9, 2, 7}, []int{2, 7, 4, 9}}, {[]int{1, 3, 2}, []int{1, 3, 2}}, {[]int{3, 2, 1}, []int{1, 3, 2}},
		{[]int{0, -1, 1}, []int{-1, 1, 0}}, {[]int{greatest, least}, []int{least, greatest}},
		// The first of several least ones, whatever stands behind it.
		{[]int{2, 1, 3, 1, 2}, []int{1, 3, 1, 2, 2}}, {[]int{1, 2, 1, 1}, []int{1, 2, 1, 1}}, {[]int{2, 1, 1}, []int{1, 1, 2}}, {[]int{5, 5}, []int{5, 5}},
	} {
		if m := First(c.l); !slices.Equal(m, c.want) {
			t.Errorf("First(%v) = %v", c.l, m)
		}
	}
}

func TestFirstOfShortLists(t *testing.T) {
	for _, l := range sample.Lists(5, -1, 0, 1, 2) {
		at := 0
		for i, x := range l {
			if x < l[at] {
				at = i
			}
		}
		if m := First(l); !slices.Equal(m, begunAt(l, at)) {
			t.Errorf("First(%v) = %v", l, m)
		}
	}
}

// Promise 2.1: Same.

func TestSame(t *testing.T) {
	for _, c := range [][2][]int{
		{nil, nil}, {nil, {}}, {{}, {}}, {{3}, {3}}, {{1, 2}, {2, 1}}, {{1, 2, 3}, {3, 1, 2}}, {{4, 9, 2, 7}, {2, 7, 4, 9}}, {{least, greatest, 0}, {0, least, greatest}},
		{{1, 1}, {1, 1}}, {{1, 1, 2}, {1, 2, 1}}, {{1, 2, 1, 3}, {1, 3, 1, 2}}, {{1, 2, 1, 2}, {2, 1, 2, 1}},
	} {
		if !Same(c[0], c[1]) || !Same(c[1], c[0]) {
			t.Errorf("%v and %v are not the same", c[0], c[1])
		}
	}
	for _, c := range [][2][]int{
		{nil, {1}}, {{1}, {2}}, {{1}, {1, 1}}, {{1, 2}, {1, 2, 1, 2}}, {{1, 2, 3}, {3, 2, 1}}, {{1, 2, 3}, {1, 2}}, {{1, 2, 3}, {1, 2, 4}}, {{4, 9, 2, 7}, {2, 4, 7, 9}}, {{least, 0}, {greatest, 0}},
		{{1, 1, 2}, {1, 2, 2}}, {{1, 1, 2, 2}, {1, 2, 1, 2}}, {{1, 2, 1, 3, 1, 4}, {1, 2, 1, 4, 1, 3}},
	} {
		if Same(c[0], c[1]) || Same(c[1], c[0]) {
			t.Errorf("%v and %v are the same", c[0], c[1])
		}
	}
}

func TestSameOfShortLists(t *testing.T) {
	lists := append(sample.Lists(5, 1, 2, 3), sample.Lists(7, 1, 2)...)
	for _, a := range lists {
		for _, b := range lists {
			want := len(a) == 0 && len(b) == 0
			for at := range a {
				want = want || slices.Equal(begunAt(a, at), b)
			}
			if Same(a, b) != want {
				t.Fatalf("Same(%v, %v) = %v", a, b, !want)
			}
		}
	}
}

// long answers n ones, but a two at a place.
func long(n, two int) []int {
	l := slices.Repeat([]int{1}, n)
	l[two] = 2
	return l
}

func TestLongLists(t *testing.T) {
	const n = 1 << 18
	for _, at := range []int{0, 1, n / 3, n - 1} {
		if !Same(long(n, at), long(n, n/2)) {
			t.Errorf("not the same: a two at %d, one at %d", at, n/2)
		}
	}
	a := long(n, 0)
	a[n/2] = 2
	b := long(n, 0)
	b[n/2+1] = 2
	if Same(a, b) || Right(a) {
		t.Errorf("long lists: Same = %v, Right = %v", Same(a, b), Right(a))
	}
	rising := make([]int, n)
	for i := range rising {
		rising[i] = i
	}
	if m, ok := Labels(rising); !ok || !slices.Equal(m, rising) || !Right(rising) {
		t.Errorf("a long rising list: Labels = %v, Right = %v", ok, Right(rising))
	}
}

// Promise 2.1: About.

func TestAbout(t *testing.T) {
	for _, c := range []struct{ l, want []int }{
		{nil, nil}, {[]int{}, nil}, {[]int{7}, []int{7}}, {[]int{1, 2}, []int{2, 1}}, {[]int{3, 1, 2}, []int{2, 1, 3}}, {[]int{4, 9, 2, 7}, []int{7, 2, 9, 4}}, {[]int{1, 1, 2}, []int{2, 1, 1}},
	} {
		if m := About(c.l); !slices.Equal(m, c.want) {
			t.Errorf("About(%v) = %v", c.l, m)
		}
	}
}

// Promise 2.1: Keep.

func TestKeep(t *testing.T) {
	odd := func(x int) bool { return x%2 != 0 }
	for _, c := range []struct{ l, want []int }{
		{nil, nil}, {[]int{}, nil}, {[]int{2}, nil}, {[]int{1}, []int{1}}, {[]int{2, 4}, nil}, {[]int{3, 1, 2}, []int{3, 1}}, {[]int{2, 7, 4, 9}, []int{7, 9}}, {[]int{1, 2, 1, 2, 3}, []int{1, 1, 3}}, {[]int{-1, 0, greatest}, []int{-1, greatest}},
	} {
		if m := Keep(c.l, odd); !slices.Equal(m, c.want) {
			t.Errorf("Keep(%v) = %v", c.l, m)
		}
	}
}

func TestKeepAsksOnceInOrder(t *testing.T) {
	l := []int{3, 1, 3, 2, 1}
	var asked []int
	m := Keep(l, func(x int) bool {
		asked = append(asked, x)
		return len(asked)%2 != 0
	})
	if !slices.Equal(asked, l) || !slices.Equal(m, []int{3, 3, 1}) {
		t.Errorf("Keep asked for %v and kept %v", asked, m)
	}
}

func TestKeepWithoutFunction(t *testing.T) {
	for _, l := range [][]int{nil, {1, 2}} {
		if m := Keep(l, nil); len(m) != 0 {
			t.Errorf("Keep(%v, nil) = %v", l, m)
		}
	}
}

// Promise 2.2: After, Before, From.

func TestAfterAndBefore(t *testing.T) {
	for _, c := range []struct {
		l                []int
		x, after, before int
		ok               bool
	}{
		{nil, 0, 0, 0, false}, {[]int{}, 1, 0, 0, false}, {[]int{1}, 2, 0, 0, false}, {[]int{4, 9, 2, 7}, 1, 0, 0, false}, {[]int{1, 2}, 0, 0, 0, false}, {[]int{1, 2}, -1, 0, 0, false},
		{[]int{5}, 5, 5, 5, true}, {[]int{5, 6}, 5, 6, 6, true}, {[]int{4, 9, 2, 7}, 9, 2, 4, true}, {[]int{4, 9, 2, 7}, 7, 4, 2, true}, {[]int{4, 9, 2, 7}, 4, 9, 7, true},
		{[]int{0, 1, 2}, 0, 1, 2, true}, {[]int{1, 0, 2}, 1, 0, 2, true}, {[]int{least, greatest, 0}, greatest, 0, least, true},
		// Of several the first one counts.
		{[]int{5, 5}, 5, 5, 5, true}, {[]int{1, 2, 3, 2, 4}, 2, 3, 1, true}, {[]int{2, 1, 3, 2}, 2, 1, 2, true}, {[]int{1, 2, 2, 3}, 2, 2, 1, true},
	} {
		if x, ok := After(c.l, c.x); x != c.after || ok != c.ok {
			t.Errorf("After(%v, %d) = %d, %v", c.l, c.x, x, ok)
		}
		if x, ok := Before(c.l, c.x); x != c.before || ok != c.ok {
			t.Errorf("Before(%v, %d) = %d, %v", c.l, c.x, x, ok)
		}
	}
}

func TestFrom(t *testing.T) {
	for _, c := range []struct {
		l    []int
		x    int
		want []int
		ok   bool
	}{
		{nil, 0, nil, false}, {[]int{}, 1, nil, false}, {[]int{1}, 2, nil, false}, {[]int{4, 9, 2, 7}, 0, nil, false},
		{[]int{5}, 5, []int{5}, true}, {[]int{4, 9, 2, 7}, 4, []int{4, 9, 2, 7}, true}, {[]int{4, 9, 2, 7}, 2, []int{2, 7, 4, 9}, true}, {[]int{4, 9, 2, 7}, 7, []int{7, 4, 9, 2}, true},
		{[]int{1, 2, 3, 2, 4}, 2, []int{2, 3, 2, 4, 1}, true}, {[]int{5, 5, 6}, 5, []int{5, 5, 6}, true}, {[]int{least, 0}, 0, []int{0, least}, true},
	} {
		if m, ok := From(c.l, c.x); ok != c.ok || !slices.Equal(m, c.want) {
			t.Errorf("From(%v, %d) = %v, %v", c.l, c.x, m, ok)
		}
	}
}

func TestPlacesOfShortLists(t *testing.T) {
	for _, l := range sample.Lists(5, 0, 1, 2, 3) {
		for x := -1; x <= 4; x++ {
			after, before, from := 0, 0, []int(nil)
			at := placeOf(l, x)
			if at >= 0 {
				from = begunAt(l, at)
				after, before = append(from, x)[1], from[len(from)-1]
			}
			if y, ok := After(l, x); y != after || ok != (at >= 0) {
				t.Errorf("After(%v, %d) = %d, %v", l, x, y, ok)
			}
			if y, ok := Before(l, x); y != before || ok != (at >= 0) {
				t.Errorf("Before(%v, %d) = %d, %v", l, x, y, ok)
			}
			if m, ok := From(l, x); ok != (at >= 0) || !slices.Equal(m, from) {
				t.Errorf("From(%v, %d) = %v, %v", l, x, m, ok)
			}
		}
	}
}

// Promise 2.2: Order.

func TestOrder(t *testing.T) {
	for _, c := range []struct {
		l       []int
		a, b, c int
	}{
		{[]int{1, 2, 3}, 1, 2, 3}, {[]int{1, 2, 3}, 2, 3, 1}, {[]int{1, 2, 3}, 3, 1, 2}, {[]int{4, 9, 2, 7}, 7, 4, 2}, {[]int{4, 9, 2, 7}, 9, 2, 4}, {[]int{4, 9, 2, 7}, 2, 7, 9}, {[]int{least, 0, greatest}, greatest, least, 0},
		// From the first a on; the first b, the first c.
		{[]int{1, 2, 1, 3}, 1, 2, 3}, {[]int{3, 1, 2, 1}, 1, 2, 3}, {[]int{1, 2, 3, 2}, 1, 2, 3}, {[]int{2, 3, 1, 2}, 1, 2, 3}, {[]int{2, 1, 3, 2, 3}, 1, 3, 2}, {[]int{1, 1, 2, 3}, 1, 2, 3},
	} {
		if !Order(c.l, c.a, c.b, c.c) {
			t.Errorf("Order(%v, %d, %d, %d) is false", c.l, c.a, c.b, c.c)
		}
	}
	for _, c := range []struct {
		l       []int
		a, b, c int
	}{
		{nil, 0, 0, 0}, {nil, 1, 2, 3}, {[]int{}, 1, 2, 3}, {[]int{1}, 1, 1, 1}, {[]int{1, 2}, 1, 2, 3},
		{[]int{1, 2, 3}, 1, 3, 2}, {[]int{1, 2, 3}, 2, 1, 3}, {[]int{1, 2, 3}, 3, 2, 1}, {[]int{4, 9, 2, 7}, 7, 2, 4},
		// Two alike, or all.
		{[]int{1, 2, 3}, 1, 1, 2}, {[]int{1, 2, 3}, 1, 2, 2}, {[]int{1, 2, 3}, 1, 2, 1}, {[]int{1, 2, 3}, 1, 1, 1}, {[]int{1, 2, 1}, 1, 2, 1}, {[]int{1, 1, 2}, 1, 1, 2}, {[]int{1, 2, 2}, 1, 2, 2}, {[]int{1, 1, 1}, 1, 1, 1},
		// One that isn't there.
		{[]int{1, 2, 3}, 4, 1, 2}, {[]int{1, 2, 3}, 1, 4, 2}, {[]int{1, 2, 3}, 1, 2, 4}, {[]int{4, 9, 2, 7}, 7, 4, 5}, {[]int{1, 2, 3}, 0, 2, 3},
		// From the first a on; the first b, the first c.
		{[]int{1, 3, 1, 2}, 1, 2, 3}, {[]int{1, 3, 2, 3}, 1, 2, 3}, {[]int{3, 1, 3, 2}, 1, 2, 3}, {[]int{2, 1, 3, 2}, 1, 2, 3},
	} {
		if Order(c.l, c.a, c.b, c.c) {
			t.Errorf("Order(%v, %d, %d, %d) is true", c.l, c.a, c.b, c.c)
		}
	}
}

// inOrder goes round from the first a on, and tells whether it meets b ahead of c.
func inOrder(l []int, a, b, c int) bool {
	start := placeOf(l, a)
	if start < 0 || placeOf(l, b) < 0 || placeOf(l, c) < 0 || a == b || b == c || c == a {
		return false
	}
	for i := start; ; i = (i + 1) % len(l) {
		if l[i] == b || l[i] == c {
			return l[i] == b
		}
	}
}

func TestOrderOfShortLists(t *testing.T) {
	for _, l := range sample.Lists(5, 0, 1, 2, 3) {
		for _, k := range sample.Lists(3, 0, 1, 2, 3, 4) {
			if len(k) < 3 {
				continue
			}
			if Order(l, k[0], k[1], k[2]) != inOrder(l, k[0], k[1], k[2]) {
				t.Fatalf("Order(%v, %d, %d, %d) = %v", l, k[0], k[1], k[2], Order(l, k[0], k[1], k[2]))
			}
		}
	}
}

// Promise 2.2: Put.

func TestPut(t *testing.T) {
	for _, c := range []struct {
		l    []int
		x    int
		m    []int
		want []int
		ok   bool
	}{
		{nil, 0, nil, nil, false}, {nil, 0, []int{1}, nil, false}, {[]int{}, 1, []int{1}, nil, false}, {[]int{1, 2}, 3, []int{4}, nil, false}, {[]int{1, 2}, 0, nil, nil, false},
		{[]int{4, 9, 2, 7}, 9, []int{0, 1}, []int{4, 0, 1, 2, 7}, true}, {[]int{4, 9, 2, 7}, 4, []int{0, 1}, []int{0, 1, 9, 2, 7}, true}, {[]int{4, 9, 2, 7}, 7, []int{0, 1}, []int{4, 9, 2, 0, 1}, true}, {[]int{4, 9}, 4, []int{5}, []int{5, 9}, true},
		{[]int{4, 9, 2}, 9, nil, []int{4, 2}, true}, {[]int{4}, 4, nil, nil, true}, {[]int{4}, 4, []int{}, nil, true}, {[]int{4}, 4, []int{1, 2, 3}, []int{1, 2, 3}, true},
		// The first x alone, and no x out of m.
		{[]int{1, 2, 3, 2}, 2, []int{9}, []int{1, 9, 3, 2}, true}, {[]int{1, 1}, 1, []int{1, 1}, []int{1, 1, 1}, true}, {[]int{1, 2}, 1, []int{2, 1}, []int{2, 1, 2}, true},
	} {
		if m, ok := Put(c.l, c.x, c.m); ok != c.ok || !slices.Equal(m, c.want) {
			t.Errorf("Put(%v, %d, %v) = %v, %v", c.l, c.x, c.m, m, ok)
		}
	}
}

func TestPutOfListsThatShare(t *testing.T) {
	all := []int{1, 2, 3, 4}
	if m, ok := Put(all, 2, all); !ok || !slices.Equal(m, []int{1, 1, 2, 3, 4, 3, 4}) {
		t.Errorf("Put of a list into itself = %v, %v", m, ok)
	}
	if m, ok := Put(all[:2], 1, all[1:]); !ok || !slices.Equal(m, []int{2, 3, 4, 2}) {
		t.Errorf("Put of what stands behind a list = %v, %v", m, ok)
	}
	if !slices.Equal(all, []int{1, 2, 3, 4}) {
		t.Errorf("Put changed what it was handed to %v", all)
	}
}

// Promise 2.3: Labels.

func TestLabels(t *testing.T) {
	for _, c := range []struct {
		l, want []int
		ok      bool
	}{
		{nil, nil, true}, {[]int{}, nil, true}, {[]int{5}, []int{5}, true}, {[]int{0}, []int{0}, true}, {[]int{5, 7}, []int{5, 7}, true}, {[]int{3, 1, 2}, []int{3, 1, 2}, true},
		// Stretches of several, and one that goes all the way round.
		{[]int{5, 5}, []int{5}, true}, {[]int{0, 0, 0}, []int{0}, true}, {[]int{5, 5, 7}, []int{5, 7}, true}, {[]int{7, 5, 5}, []int{7, 5}, true}, {[]int{3, 3, 1, 2, 2}, []int{3, 1, 2}, true},
		// Stretches that go over the end.
		{[]int{5, 5, 7, 5}, []int{5, 7}, true}, {[]int{5, 7, 5}, []int{5, 7}, true}, {[]int{1, 2, 2, 1}, []int{1, 2}, true}, {[]int{3, 1, 1, 2, 3, 3}, []int{3, 1, 2}, true}, {[]int{9, 1, 2, 9}, []int{9, 1, 2}, true},
		// Two stretches of one number.
		{[]int{5, 7, 5, 7}, nil, false}, {[]int{1, 2, 1, 3}, nil, false}, {[]int{2, 1, 3, 1}, nil, false}, {[]int{1, 2, 1, 2, 1}, nil, false}, {[]int{1, 1, 2, 1, 1, 3}, nil, false}, {[]int{1, 2, 3, 2, 1}, nil, false}, {[]int{1, 2, 1, 3, 1}, nil, false},
		{[]int{least, least, greatest}, []int{least, greatest}, true}, {[]int{-1, -2, -1}, []int{-1, -2}, true},
	} {
		if m, ok := Labels(c.l); ok != c.ok || !slices.Equal(m, c.want) {
			t.Errorf("Labels(%v) = %v, %v", c.l, m, ok)
		}
	}
}

// labelsOf answers the numbers of l, each at its first place, if none begins more than one stretch.
func labelsOf(l []int) ([]int, bool) {
	var labels []int
	begins := map[int]int{}
	for i, x := range l {
		if placeOf(l, x) == i {
			labels = append(labels, x)
		}
		if x != l[(i+len(l)-1)%len(l)] {
			begins[x]++
		}
		if begins[x] > 1 {
			return nil, false
		}
	}
	return labels, true
}

func TestLabelsOfShortLists(t *testing.T) {
	for _, l := range append(sample.Lists(6, 0, 1, 2), sample.Lists(5, 0, 1, 2, 3)...) {
		want, right := labelsOf(l)
		if m, ok := Labels(l); ok != right || !slices.Equal(m, want) {
			t.Errorf("Labels(%v) = %v, %v", l, m, ok)
		}
	}
}

// Promise 2.4: rings begun elsewhere, turned about, and what is ahead of what is behind.

func TestRingsBegunElsewhere(t *testing.T) {
	for _, l := range sample.Lists(5, 0, 1, 2, 3) {
		if !Same(l, l) || !Same(l, First(l)) {
			t.Errorf("%v is not the same as itself begun with its least number", l)
		}
		for at, x := range l {
			elsewhere := begunAt(l, at)
			if !Same(l, elsewhere) || !Same(elsewhere, l) {
				t.Errorf("%v and %v are not the same", l, elsewhere)
			}
			if m, ok := From(l, x); !ok || !Same(l, m) {
				t.Errorf("%v is not the same begun with %d", l, x)
			}
			if Right(l) && !slices.Equal(First(elsewhere), First(l)) {
				t.Errorf("First of %v and of %v differ", l, elsewhere)
			}
		}
	}
}

func TestTurnedAboutTwice(t *testing.T) {
	for _, l := range sample.Lists(5, 0, 1, 2, 3) {
		about := About(l)
		if !slices.Equal(About(about), l) {
			t.Errorf("%v turned about twice is %v", l, About(about))
		}
		for i := range l {
			if about[len(l)-1-i] != l[i] {
				t.Errorf("About(%v) = %v", l, about)
			}
		}
	}
}

func TestAheadOfWhatIsBehind(t *testing.T) {
	for _, l := range sample.Lists(4, 0, 1, 2, 3) {
		if !Right(l) {
			continue
		}
		for _, x := range l {
			after, _ := After(l, x)
			before, _ := Before(l, x)
			if y, ok := Before(l, after); y != x || !ok {
				t.Errorf("%v: ahead of what is behind %d is %d", l, x, y)
			}
			if y, ok := After(l, before); y != x || !ok {
				t.Errorf("%v: behind what is ahead of %d is %d", l, x, y)
			}
			if y, ok := After(About(l), x); y != before || !ok {
				t.Errorf("%v turned about: behind %d is %d", l, x, y)
			}
		}
	}
}

// All promises: nothing that is handed in changes, nothing that is handed out is shared.

// calls answers each call with its lists, answered; those that answer none are there for what they are handed.
func calls() map[string]func(l []int, x int, m []int) []int {
	return map[string]func(l []int, x int, m []int) []int{
		"First":     func(l []int, _ int, _ []int) []int { return First(l) },
		"About":     func(l []int, _ int, _ []int) []int { return About(l) },
		"Keep all":  func(l []int, _ int, _ []int) []int { return Keep(l, func(int) bool { return true }) },
		"Keep some": func(l []int, x int, _ []int) []int { return Keep(l, func(y int) bool { return x != y }) },
		"From": func(l []int, x int, _ []int) []int {
			from, _ := From(l, x)
			return from
		},
		"Put": func(l []int, x int, m []int) []int {
			put, _ := Put(l, x, m)
			return put
		},
		"Labels": func(l []int, _ int, _ []int) []int {
			labels, _ := Labels(l)
			return labels
		},
		"without a list": func(l []int, x int, m []int) []int {
			Right(l)
			Same(l, m)
			Same(m, l)
			After(l, x)
			Before(l, x)
			Order(l, x, 1, 2)
			return nil
		},
	}
}

const mark = 77 // what stands in spare room

// withRoom answers l, and spare room behind it.
func withRoom(l []int) []int {
	return append(slices.Clone(l), mark, mark, mark, mark, mark, mark)[:len(l)]
}

// whole answers l and the spare room behind it.
func whole(l []int) []int {
	return l[:cap(l)]
}

func fill(l []int, x int) {
	for i := range whole(l) {
		whole(l)[i] = x
	}
}

func TestNothingIsChangedOrShared(t *testing.T) {
	for name, call := range calls() {
		for _, l := range sample.Lists(4, 1, 2, 3) {
			for _, m := range [][]int{nil, {1}, {2, 3}, slices.Clone(l)} {
				for x := range 5 {
					checkMemory(t, name, call, withRoom(l), x, withRoom(m))
				}
			}
		}
	}
}

func checkMemory(t *testing.T, name string, call func(l []int, x int, m []int) []int, l []int, x int, m []int) {
	t.Helper()
	oldL, oldM := slices.Clone(whole(l)), slices.Clone(whole(m))
	answer, other := call(l, x, m), call(l, x, m)
	want := slices.Clone(answer)
	fill(other, -1)
	if !slices.Equal(whole(l), oldL) || !slices.Equal(whole(m), oldM) {
		t.Fatalf("%s of %v, %d, %v changes it, or shares it", name, oldL, x, oldM)
	}
	fill(l, -2)
	fill(m, -3)
	if !slices.Equal(answer, want) {
		t.Fatalf("%s of %v, %d, %v: the answer %v is shared, and becomes %v", name, oldL, x, oldM, want, answer)
	}
}

// A false says that there is nothing: the other answer is empty.
func TestNothingBesideFalse(t *testing.T) {
	for _, l := range sample.Lists(4, 1, 2, 3) {
		from, ok := From(l, 4)
		put, done := Put(l, 4, l)
		if ok || done || len(from) > 0 || len(put) > 0 {
			t.Errorf("%v without 4: From = %v, %v; Put = %v, %v", l, from, ok, put, done)
		}
		if labels, ok := Labels(l); !ok && len(labels) > 0 {
			t.Errorf("Labels(%v) = %v, %v", l, labels, ok)
		}
	}
}
