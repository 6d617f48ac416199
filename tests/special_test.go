package tests

import (
	"math"
	"slices"
	"testing"

	"loop.example/windowaggregates/impl"
)

// inverseKinds are the kinds of windows with an inverse, and dequeKinds those of deques.
var (
	inverseKinds = []int{impl.KindSum, impl.KindCount, impl.KindMean, impl.KindMap}
	dequeKinds   = []int{impl.KindLeast, impl.KindMost}
)

// otherKinds are the kinds that are not among kinds, and numbers that are no kind.
func otherKinds(kinds []int) []int {
	all := slices.Clone(notKinds)
	for k := 1; k <= 10; k++ {
		if !slices.Contains(kinds, k) {
			all = append(all, k)
		}
	}
	return all
}

// inverseOf is the window of items, with an aggregate that is not combined from others.
func inverseOf(k int, items []int) impl.Inverse {
	return impl.Inverse{Items: slices.Clone(items), Agg: direct(k, items)}
}

// better reports whether an item a drops an item b that came before it.
func better(k int, a, b int) bool {
	if k == impl.KindLeast {
		return a < b
	}
	return a > b
}

// plainDeque has all items that came, how many of them went, and the places of
// those that were dropped: all that says what a deque is, without its order.
type plainDeque struct {
	came    []int
	went    int
	dropped map[int]bool
}

func (p *plainDeque) change(k int, op impl.Op) {
	if !op.Push {
		p.went++
		return
	}
	if p.dropped == nil {
		p.dropped = map[int]bool{}
	}
	for place := p.went; place < len(p.came); place++ {
		if better(k, op.Item, p.came[place]) {
			p.dropped[place] = true
		}
	}
	p.came = append(p.came, op.Item)
}

func (p *plainDeque) window() []int {
	return p.came[p.went:]
}

func (p *plainDeque) deque() impl.Deque {
	d := impl.Deque{First: p.went, Next: len(p.came), Drops: len(p.dropped)}
	for place := p.went; place < len(p.came); place++ {
		if !p.dropped[place] {
			d.Items = append(d.Items, p.came[place])
			d.Places = append(d.Places, place)
		}
	}
	return d
}

// dequeOf is the deque of items that come one after the other, and of which none went.
func dequeOf(k int, items []int) impl.Deque {
	var p plainDeque
	for _, n := range items {
		p.change(k, push(n))
	}
	return p.deque()
}

// moved is d with places that are greater by some number.
func moved(d impl.Deque, by int) impl.Deque {
	d.Places = slices.Clone(d.Places)
	for i := range d.Places {
		d.Places[i] += by
	}
	d.First += by
	d.Next += by
	return d
}

// dropping is d with a counter.
func dropping(d impl.Deque, drops int) impl.Deque {
	d.Drops = drops
	return d
}

func sameInverse(a, b impl.Inverse) bool {
	return slices.Equal(a.Items, b.Items) && a.Agg == b.Agg
}

func sameDeque(a, b impl.Deque) bool {
	return slices.Equal(a.Items, b.Items) && slices.Equal(a.Places, b.Places) && a.First == b.First && a.Next == b.Next && a.Drops == b.Drops
}

func cloneInverse(w impl.Inverse) impl.Inverse {
	w.Items = slices.Clone(w.Items)
	return w
}

func cloneDeque(d impl.Deque) impl.Deque {
	d.Items, d.Places = slices.Clone(d.Items), slices.Clone(d.Places)
	return d
}

// mustInverse makes a change, and checks that it leaves its argument as it was.
func mustInverse(t *testing.T, k int, w impl.Inverse, op impl.Op) impl.Inverse {
	t.Helper()
	before := cloneInverse(w)
	next, ok := impl.InverseStep(k, w, op)
	if !ok || !impl.InverseValid(k, next) {
		t.Fatalf("InverseStep(%d, %v, %v) = %v, %v", k, w, op, next, ok)
	}
	if !sameInverse(w, before) {
		t.Fatalf("InverseStep(%d, %v, %v) changes its argument to %v", k, before, op, w)
	}
	return next
}

// mustDeque makes a change, and checks that it leaves its argument as it was.
func mustDeque(t *testing.T, k int, d impl.Deque, op impl.Op) impl.Deque {
	t.Helper()
	before := cloneDeque(d)
	next, ok := impl.DequeStep(k, d, op)
	if !ok || !impl.DequeValid(k, next) {
		t.Fatalf("DequeStep(%d, %v, %v) = %v, %v", k, d, op, next, ok)
	}
	if !sameDeque(d, before) {
		t.Fatalf("DequeStep(%d, %v, %v) changes its argument to %v", k, before, op, d)
	}
	return next
}

// rejectInverseStep checks that a change cannot be made.
func rejectInverseStep(t *testing.T, k int, w impl.Inverse, op impl.Op) {
	t.Helper()
	before := cloneInverse(w)
	next, ok := impl.InverseStep(k, w, op)
	if ok || !sameInverse(next, impl.Inverse{}) {
		t.Errorf("InverseStep(%d, %v, %v) = %v, %v", k, w, op, next, ok)
	}
	if !sameInverse(w, before) {
		t.Errorf("InverseStep(%d, %v, %v) changes its argument to %v", k, before, op, w)
	}
}

// rejectDequeStep checks that a change cannot be made.
func rejectDequeStep(t *testing.T, k int, d impl.Deque, op impl.Op) {
	t.Helper()
	before := cloneDeque(d)
	next, ok := impl.DequeStep(k, d, op)
	if ok || !sameDeque(next, impl.Deque{}) {
		t.Errorf("DequeStep(%d, %v, %v) = %v, %v", k, d, op, next, ok)
	}
	if !sameDeque(d, before) {
		t.Errorf("DequeStep(%d, %v, %v) changes its argument to %v", k, before, op, d)
	}
}

// rejectInverse checks that no function accepts w as a window of a kind.
func rejectInverse(t *testing.T, k int, w impl.Inverse) {
	t.Helper()
	if impl.InverseValid(k, w) {
		t.Errorf("InverseValid(%d, %v) is true", k, w)
	}
	rejectInverseStep(t, k, w, push(5))
	rejectInverseStep(t, k, w, take)
}

// rejectDeque checks that no function accepts d as a deque of a kind.
func rejectDeque(t *testing.T, k int, d impl.Deque) {
	t.Helper()
	if impl.DequeValid(k, d) {
		t.Errorf("DequeValid(%d, %v) is true", k, d)
	}
	if n, ok := impl.DequeNumber(k, d); ok || n != 0 {
		t.Errorf("DequeNumber(%d, %v) = %d, %v", k, d, n, ok)
	}
	rejectDequeStep(t, k, d, push(5))
	rejectDequeStep(t, k, d, take)
}

func rejectInverseRun(t *testing.T, k int, ops []impl.Op) {
	t.Helper()
	w, numbers, ok := impl.InverseRun(k, ops)
	if ok || !sameInverse(w, impl.Inverse{}) || len(numbers) != 0 {
		t.Errorf("InverseRun(%d, %v) = %v, %v, %v", k, ops, w, numbers, ok)
	}
}

func rejectDequeRun(t *testing.T, k int, ops []impl.Op) {
	t.Helper()
	d, numbers, ok := impl.DequeRun(k, ops)
	if ok || !sameDeque(d, impl.Deque{}) || len(numbers) != 0 {
		t.Errorf("DequeRun(%d, %v) = %v, %v, %v", k, ops, d, numbers, ok)
	}
}

// rejectSpecial checks that no function makes ops.
func rejectSpecial(t *testing.T, ops []impl.Op) {
	t.Helper()
	for k := 1; k <= 10; k++ {
		rejectInverseRun(t, k, ops)
		rejectDequeRun(t, k, ops)
	}
}

// checkDequeNumber checks that a deque is valid, and the number of its window.
func checkDequeNumber(t *testing.T, k int, d impl.Deque, window []int) {
	t.Helper()
	if !impl.DequeValid(k, d) {
		t.Fatalf("DequeValid(%d, %v) is false", k, d)
	}
	n, ok := impl.DequeNumber(k, d)
	if len(window) == 0 {
		if ok || n != 0 {
			t.Fatalf("DequeNumber(%d, %v) = %d, %v", k, d, n, ok)
		}
		return
	}
	if !ok || n != directNumber(k, window) {
		t.Fatalf("DequeNumber(%d, %v) = %d, %v, not that of %v", k, d, n, ok, window)
	}
}

// checkInverse checks the window after each of the valid changes ops, and all numbers.
func checkInverse(t *testing.T, k int, ops []impl.Op) {
	t.Helper()
	before := slices.Clone(ops)
	w, want := inverseOf(k, nil), []int{}
	if !impl.InverseValid(k, w) {
		t.Fatalf("InverseValid(%d, %v) is false", k, w)
	}
	for i, op := range ops {
		w = mustInverse(t, k, w, op)
		window := directWindow(ops[:i+1])
		if !sameInverse(w, inverseOf(k, window)) {
			t.Fatalf("kind %d: %v have the window %v, not %v", k, ops[:i+1], w, inverseOf(k, window))
		}
		want = append(want, directNumber(k, window))
	}
	run, numbers, ok := impl.InverseRun(k, ops)
	if !ok || !sameInverse(run, w) || !slices.Equal(numbers, want) {
		t.Fatalf("InverseRun(%d, %v) = %v, %v, %v, not %v, %v", k, ops, run, numbers, ok, w, want)
	}
	checkQueries(t, k, ops, numbers)
	if !slices.Equal(ops, before) {
		t.Fatalf("%v has become %v", before, ops)
	}
}

// checkDeque checks the deque after each of the valid changes ops, and all numbers.
func checkDeque(t *testing.T, k int, ops []impl.Op) {
	t.Helper()
	before := slices.Clone(ops)
	d, p, want := impl.Deque{}, plainDeque{}, []int{}
	checkDequeNumber(t, k, d, nil)
	for i, op := range ops {
		d = mustDeque(t, k, d, op)
		p.change(k, op)
		if !sameDeque(d, p.deque()) {
			t.Fatalf("kind %d: %v have the deque %v, not %v", k, ops[:i+1], d, p.deque())
		}
		checkDequeNumber(t, k, d, p.window())
		want = append(want, directNumber(k, p.window()))
	}
	run, numbers, ok := impl.DequeRun(k, ops)
	if !ok || !sameDeque(run, d) || !slices.Equal(numbers, want) {
		t.Fatalf("DequeRun(%d, %v) = %v, %v, %v, not %v, %v", k, ops, run, numbers, ok, d, want)
	}
	checkQueries(t, k, ops, numbers)
	if !slices.Equal(ops, before) {
		t.Fatalf("%v has become %v", before, ops)
	}
}

// checkQueries checks that numbers are those of QueriesOf.
func checkQueries(t *testing.T, k int, ops []impl.Op, numbers []int) {
	t.Helper()
	if queries, ok := impl.QueriesOf(k, ops); !ok || !slices.Equal(numbers, queries) {
		t.Fatalf("kind %d: %v have %v, and QueriesOf returns %v, %v", k, ops, numbers, queries, ok)
	}
}

// checkSpecial checks the windows of valid changes, for each kind that has them.
func checkSpecial(t *testing.T, ops []impl.Op) {
	t.Helper()
	for _, k := range inverseKinds {
		checkInverse(t, k, ops)
	}
	for _, k := range dequeKinds {
		checkDeque(t, k, ops)
	}
}

// fewer are ops with items that are less than count, so that many are equal.
func fewer(ops []impl.Op, count int) []impl.Op {
	all := slices.Clone(ops)
	for i := range all {
		all[i].Item %= count
	}
	return all
}

// TestPromise6Short: all short lists of changes, in which each of three items
// comes before, behind and beside each other one, up to the first change that
// cannot be made.
func TestPromise6Short(t *testing.T) {
	lists := [][]impl.Op{nil}
	for next := 0; next < len(lists); next++ {
		ops := lists[next]
		if impl.OpsValid(ops) {
			checkSpecial(t, ops)
		} else {
			rejectSpecial(t, ops)
		}
		if len(ops) == 7 || !impl.OpsValid(ops) {
			continue
		}
		for _, op := range []impl.Op{push(7), push(30), push(96), take} {
			lists = append(lists, append(slices.Clone(ops), op))
		}
	}
}

// TestPromise6Long: 200 changes, and one too many, with few and with many equal items.
func TestPromise6Long(t *testing.T) {
	for _, ops := range longLists(40) {
		for _, count := range []int{97, 20, 5, 2, 1} {
			checkSpecial(t, fewer(ops, count))
		}
		rejectSpecial(t, append(ops, push(0)))
	}
}

// TestPromise6Slides: windows of each size, over items that rise, fall, and do both.
func TestPromise6Slides(t *testing.T) {
	rising, falling, waves := make([]int, 60), make([]int, 60), make([]int, 60)
	for i := range 60 {
		rising[i], falling[i], waves[i] = i+36, 96-i, i*i/4%31
	}
	for _, items := range [][]int{rising, falling, waves, directWindow(pushes(60))} {
		for size := 1; size <= 59; size++ {
			ops, ok := impl.SlideOps(items, size)
			if !ok {
				t.Fatalf("SlideOps of size %d returns false", size)
			}
			checkSpecial(t, ops)
		}
	}
}

// TestPromise6Numbers has numbers by hand: an item comes, or goes, with each of the changes.
func TestPromise6Numbers(t *testing.T) {
	ops := []impl.Op{push(9), push(1), push(5), take, push(7), take, take, take, push(50)}
	wants := map[int][]int{
		impl.KindSum: {9, 10, 15, 6, 13, 12, 7, 0, 50}, impl.KindCount: {1, 2, 3, 2, 3, 2, 1, 0, 1},
		impl.KindMean: {9, 5, 5, 3, 4, 6, 7, -1, 50}, impl.KindMap: {10, 21, 34, 23, 94, 95, 15, 1, 56},
		impl.KindLeast: {9, 1, 1, 1, 1, 5, 7, -1, 50}, impl.KindMost: {9, 9, 9, 5, 7, 7, 7, -1, 50},
	}
	checkSpecial(t, ops)
	for _, k := range inverseKinds {
		if _, numbers, ok := impl.InverseRun(k, ops); !ok || !slices.Equal(numbers, wants[k]) {
			t.Errorf("InverseRun(%d) has %v, %v, not %v", k, numbers, ok, wants[k])
		}
	}
	for _, k := range dequeKinds {
		if _, numbers, ok := impl.DequeRun(k, ops); !ok || !slices.Equal(numbers, wants[k]) {
			t.Errorf("DequeRun(%d) has %v, %v, not %v", k, numbers, ok, wants[k])
		}
	}
}

// TestInverseMap: a map that is removed, with numbers by hand and for each two items.
func TestInverseMap(t *testing.T) {
	// The map of 9 takes a number to it plus 9, that of 1 to twice it plus 1, and
	// that of 5 to 6 times it plus 5.
	w := inverseOf(impl.KindMap, nil)
	steps := []struct {
		op   impl.Op
		want impl.Inverse
	}{
		{push(9), impl.Inverse{Items: []int{9}, Agg: value(1, 9, 0)}},
		{push(1), impl.Inverse{Items: []int{9, 1}, Agg: value(2, 19, 0)}},
		{push(5), impl.Inverse{Items: []int{9, 1, 5}, Agg: value(12, 22, 0)}},
		{take, impl.Inverse{Items: []int{1, 5}, Agg: value(12, 11, 0)}},
		{take, impl.Inverse{Items: []int{5}, Agg: value(6, 5, 0)}},
		{take, impl.Inverse{Agg: value(1, 0, 0)}},
	}
	for _, s := range steps {
		w = mustInverse(t, impl.KindMap, w, s.op)
		if !sameInverse(w, s.want) {
			t.Errorf("after %v: %v, not %v", s.op, w, s.want)
		}
	}
	for a := 0; a <= 96; a++ {
		for b := 0; b <= 96; b++ {
			w := mustInverse(t, impl.KindMap, inverseOf(impl.KindMap, []int{a, b}), take)
			if want := inverseOf(impl.KindMap, []int{b}); !sameInverse(w, want) {
				t.Fatalf("the window of %d and %d is without %d %v, not %v", a, b, a, w, want)
			}
		}
	}
}

// TestInverseEach: each item comes behind others, and goes before them.
func TestInverseEach(t *testing.T) {
	for _, k := range inverseKinds {
		for n := range 97 {
			for _, others := range [][]int{{}, {0}, {96}, {n}, {8, 17, 26}, {3, 96, 96, 1}} {
				w := mustInverse(t, k, inverseOf(k, others), push(n))
				if want := inverseOf(k, append(slices.Clone(others), n)); !sameInverse(w, want) {
					t.Fatalf("kind %d: %v, not %v", k, w, want)
				}
				w = mustInverse(t, k, inverseOf(k, append([]int{n}, others...)), take)
				if want := inverseOf(k, others); !sameInverse(w, want) {
					t.Fatalf("kind %d: %v, not %v", k, w, want)
				}
			}
		}
	}
}

// TestDequeExample has the document's example, and what is left of it item by item.
func TestDequeExample(t *testing.T) {
	d, numbers, ok := impl.DequeRun(impl.KindLeast, []impl.Op{push(7), push(3), push(5)})
	want := impl.Deque{Items: []int{3, 5}, Places: []int{1, 2}, Next: 3, Drops: 1}
	if !ok || !sameDeque(d, want) || !slices.Equal(numbers, []int{7, 3, 3}) {
		t.Errorf("DequeRun = %v, %v, %v", d, numbers, ok)
	}
	d, numbers, ok = impl.DequeRun(impl.KindMost, []impl.Op{push(7), push(3), push(5)})
	want = impl.Deque{Items: []int{7, 5}, Places: []int{0, 2}, Next: 3, Drops: 1}
	if !ok || !sameDeque(d, want) || !slices.Equal(numbers, []int{7, 7, 7}) {
		t.Errorf("DequeRun = %v, %v, %v", d, numbers, ok)
	}
}

// TestDequeEqual: an item does not drop those that are equal to it, and these go one by one.
func TestDequeEqual(t *testing.T) {
	for _, k := range dequeKinds {
		ops := []impl.Op{push(5), push(5), push(5)}
		d, numbers, ok := impl.DequeRun(k, ops)
		want := impl.Deque{Items: []int{5, 5, 5}, Places: []int{0, 1, 2}, Next: 3}
		if !ok || !sameDeque(d, want) || !slices.Equal(numbers, []int{5, 5, 5}) {
			t.Errorf("DequeRun(%d) = %v, %v, %v", k, d, numbers, ok)
		}
		for first := 1; first <= 3; first++ {
			d = mustDeque(t, k, d, take)
			want = impl.Deque{Items: want.Items[1:], Places: want.Places[1:], First: first, Next: 3}
			if !sameDeque(d, want) {
				t.Errorf("kind %d: %v, not %v", k, d, want)
			}
		}
		best, worst := 0, 96
		if k == impl.KindMost {
			best, worst = 96, 0
		}
		// A better one drops both that are equal, and not the better one before them.
		d = dequeOf(k, []int{best, worst, worst})
		d = mustDeque(t, k, d, push(50))
		if want := (impl.Deque{Items: []int{best, 50}, Places: []int{0, 3}, Next: 4, Drops: 2}); !sameDeque(d, want) {
			t.Errorf("kind %d: %v, not %v", k, d, want)
		}
		d = mustDeque(t, k, d, push(best))
		if want := (impl.Deque{Items: []int{best, best}, Places: []int{0, 4}, Next: 5, Drops: 3}); !sameDeque(d, want) {
			t.Errorf("kind %d: %v, not %v", k, d, want)
		}
		all := slices.Repeat([]int{5}, 60)
		d = dequeOf(k, all)
		if d.Drops != 0 || len(d.Items) != 60 {
			t.Fatalf("kind %d: %v", k, d)
		}
		checkDequeNumber(t, k, d, all)
	}
}

// TestDequeGone: an item that was dropped goes, and the items stay as they are.
func TestDequeGone(t *testing.T) {
	d := dequeOf(impl.KindLeast, []int{9, 8, 7, 3, 5})
	items, places := []int{3, 5}, []int{3, 4}
	for first := range 4 {
		if want := (impl.Deque{Items: items, Places: places, First: first, Next: 5, Drops: 3}); !sameDeque(d, want) {
			t.Errorf("%v, not %v", d, want)
		}
		d = mustDeque(t, impl.KindLeast, d, take)
	}
	if want := (impl.Deque{Items: items[1:], Places: places[1:], First: 4, Next: 5, Drops: 3}); !sameDeque(d, want) {
		t.Errorf("%v, not %v", d, want)
	}
	// An item in the middle was dropped, so that it goes behind one that was kept.
	d = dequeOf(impl.KindMost, []int{9, 1, 4})
	wants := []impl.Deque{
		{Items: []int{9, 4}, Places: []int{0, 2}, Next: 3, Drops: 1},
		{Items: []int{4}, Places: []int{2}, First: 1, Next: 3, Drops: 1},
		{Items: []int{4}, Places: []int{2}, First: 2, Next: 3, Drops: 1},
		{First: 3, Next: 3, Drops: 1},
	}
	for i, want := range wants {
		if !sameDeque(d, want) {
			t.Errorf("%v, not %v", d, want)
		}
		if i < 3 {
			d = mustDeque(t, impl.KindMost, d, take)
		}
	}
	rejectDequeStep(t, impl.KindMost, d, take)
}

// TestSpecialStart: no changes.
func TestSpecialStart(t *testing.T) {
	for _, k := range inverseKinds {
		for _, ops := range [][]impl.Op{nil, {}} {
			w, numbers, ok := impl.InverseRun(k, ops)
			if !ok || !sameInverse(w, inverseOf(k, nil)) || len(numbers) != 0 {
				t.Errorf("InverseRun(%d) of no changes = %v, %v, %v", k, w, numbers, ok)
			}
			checkInverse(t, k, ops)
			rejectInverseStep(t, k, w, take)
		}
	}
	for _, k := range dequeKinds {
		for _, ops := range [][]impl.Op{nil, {}} {
			d, numbers, ok := impl.DequeRun(k, ops)
			if !ok || !sameDeque(d, impl.Deque{}) || len(numbers) != 0 {
				t.Errorf("DequeRun(%d) of no changes = %v, %v, %v", k, d, numbers, ok)
			}
			checkDeque(t, k, ops)
			rejectDequeStep(t, k, d, take)
		}
	}
}

// TestSpecialEmptyBetween: a window gets empty and is filled again; a deque goes on counting.
func TestSpecialEmptyBetween(t *testing.T) {
	ops := []impl.Op{push(5), take, push(8), push(2), take, take, push(1)}
	checkSpecial(t, ops)
	checkSpecial(t, pairs(200))
	for _, k := range inverseKinds {
		w, _, _ := impl.InverseRun(k, ops[:6])
		if !sameInverse(w, inverseOf(k, nil)) {
			t.Errorf("InverseRun(%d) = %v", k, w)
		}
		rejectInverseStep(t, k, w, take)
		if w = mustInverse(t, k, w, push(1)); !sameInverse(w, inverseOf(k, []int{1})) {
			t.Errorf("kind %d: %v", k, w)
		}
	}
	for _, k := range dequeKinds {
		drops := 0
		if k == impl.KindLeast {
			drops = 1 // the 2 drops the 8
		}
		d, _, _ := impl.DequeRun(k, ops[:6])
		if want := (impl.Deque{First: 3, Next: 3, Drops: drops}); !sameDeque(d, want) {
			t.Errorf("DequeRun(%d) = %v, not %v", k, d, want)
		}
		checkDequeNumber(t, k, d, nil)
		rejectDequeStep(t, k, d, take)
		d = mustDeque(t, k, d, push(1))
		if want := (impl.Deque{Items: []int{1}, Places: []int{3}, First: 3, Next: 4, Drops: drops}); !sameDeque(d, want) {
			t.Errorf("kind %d: %v, not %v", k, d, want)
		}
	}
}

// TestSpecialFull: MaxSize items, and one more.
func TestSpecialFull(t *testing.T) {
	items := directWindow(pushes(62))
	full := append(pushes(60), slices.Repeat([]impl.Op{take, push(5)}, 70)...)
	checkSpecial(t, full)
	checkSpecial(t, append(pushes(60), slices.Repeat([]impl.Op{take}, 60)...))
	rejectSpecial(t, pushes(61))
	for _, k := range inverseKinds {
		w := mustInverse(t, k, inverseOf(k, items[:59]), push(items[59]))
		if !sameInverse(w, inverseOf(k, items[:60])) {
			t.Errorf("kind %d: %v", k, w)
		}
		rejectInverseStep(t, k, w, push(5))
		w = mustInverse(t, k, mustInverse(t, k, w, take), push(items[60]))
		if !sameInverse(w, inverseOf(k, items[1:61])) {
			t.Errorf("kind %d: %v", k, w)
		}
		rejectInverseStep(t, k, w, push(5))
		rejectInverse(t, k, inverseOf(k, items[:61]))
		rejectInverse(t, k, inverseOf(k, make([]int, 1000)))
	}
	for _, k := range dequeKinds {
		for _, list := range [][]int{items[:60], make([]int, 60), slices.Repeat([]int{3, 90}, 30)} {
			// However few items are kept, the window has MaxSize.
			d := dequeOf(k, list)
			checkDequeNumber(t, k, d, list)
			rejectDequeStep(t, k, d, push(0))
			rejectDequeStep(t, k, d, push(96))
			d = mustDeque(t, k, d, take)
			checkDequeNumber(t, k, d, list[1:])
			d = mustDeque(t, k, d, push(50))
			checkDequeNumber(t, k, d, append(slices.Clone(list[1:]), 50))
			rejectDequeStep(t, k, d, push(50))
			rejectDeque(t, k, dequeOf(k, append(slices.Clone(list), 50)))
		}
		// One item is left of a window of 60, or of one that has too many.
		one := impl.Deque{Items: []int{5}, Places: []int{69}, First: 10, Next: 70}
		checkDequeNumber(t, k, one, []int{5})
		rejectDequeStep(t, k, one, push(5))
		one.First = 9
		rejectDeque(t, k, one)
		// More items than a window has places.
		rejectDeque(t, k, dequeOf(k, make([]int, 61)))
		rejectDeque(t, k, dequeOf(k, make([]int, 1000)))
		many := dequeOf(k, make([]int, 61))
		many.First = 1
		rejectDeque(t, k, many)
	}
}

// TestDequeCounters: numbers from 0 to 1000000 are valid, and a change is made up to 900000.
func TestDequeCounters(t *testing.T) {
	numbers := []int{0, 1, 59, 60, 899999, 900000, 900001, 999999, 1000000, 1000001, -1, math.MinInt, math.MinInt + 1, math.MaxInt - 1, math.MaxInt}
	for _, k := range dequeKinds {
		for _, list := range [][]int{nil, {5}, {5, 5}, {3, 9}, {9, 3}, slices.Repeat([]int{4, 90}, 30)[:59], directWindow(pushes(60))} {
			d := dequeOf(k, list)
			for _, n := range numbers {
				checkDequeCounters(t, k, dropping(d, n), list)
				if n >= 0 && n <= 1000001 {
					// Next is n, or First is.
					checkDequeCounters(t, k, moved(d, n-len(list)), list)
					checkDequeCounters(t, k, moved(d, n), list)
					checkDequeCounters(t, k, dropping(moved(d, n), 1000000-n), list)
					checkDequeCounters(t, k, dropping(moved(d, n), n), list)
				}
			}
		}
	}
}

// checkDequeCounters checks d, which has any numbers, and is valid but for these.
func checkDequeCounters(t *testing.T, k int, d impl.Deque, window []int) {
	t.Helper()
	for _, n := range []int{d.First, d.Next, d.Drops} {
		if n < 0 || n > 1000000 {
			rejectDeque(t, k, d)
			return
		}
	}
	checkDequeNumber(t, k, d, window)
	if d.Next > 900000 || d.Drops > 900000 {
		rejectDequeStep(t, k, d, push(5))
		rejectDequeStep(t, k, d, take)
		return
	}
	// The same from a First and Drops of 0.
	plain := moved(dropping(d, 0), -d.First)
	if len(window) < 60 {
		for _, n := range []int{0, 5, 50, 96} {
			next := mustDeque(t, k, d, push(n))
			same := mustDeque(t, k, plain, push(n))
			if want := moved(dropping(same, same.Drops+d.Drops), d.First); !sameDeque(next, want) {
				t.Errorf("DequeStep(%d, %v) of a push = %v, not %v", k, d, next, want)
			}
		}
	}
	if len(window) > 0 {
		next := mustDeque(t, k, d, take)
		same := mustDeque(t, k, plain, take)
		if want := moved(dropping(same, d.Drops), d.First); !sameDeque(next, want) {
			t.Errorf("DequeStep(%d, %v) of a take = %v, not %v", k, d, next, want)
		}
	}
}

// TestDequeDropsLimit: a push drops as many as there are, also at the limit.
func TestDequeDropsLimit(t *testing.T) {
	rising := make([]int, 59)
	for i := range rising {
		rising[i] = i + 10
	}
	d := moved(dropping(dequeOf(impl.KindLeast, rising), 900000), 900000-59)
	d = mustDeque(t, impl.KindLeast, d, push(9))
	want := impl.Deque{Items: []int{9}, Places: []int{900000}, First: 899941, Next: 900001, Drops: 900059}
	if !sameDeque(d, want) {
		t.Errorf("%v, not %v", d, want)
	}
	rejectDequeStep(t, impl.KindLeast, d, take)
}

// TestSpecialMany: steps are not limited to the number of changes in a list, and
// no more items are dropped than came.
func TestSpecialMany(t *testing.T) {
	for _, k := range inverseKinds {
		w, window := inverseOf(k, nil), []int{}
		for i := range 1500 {
			n := i * 53 % 97
			w, window = mustInverse(t, k, w, push(n)), append(window, n)
			for len(window) > 1+i%23 {
				w, window = mustInverse(t, k, w, take), window[1:]
			}
			if !sameInverse(w, inverseOf(k, window)) {
				t.Fatalf("kind %d: %v, not %v", k, w, inverseOf(k, window))
			}
		}
	}
	for _, k := range dequeKinds {
		d, window := impl.Deque{}, []int{}
		for i := range 1500 {
			n := i * 53 % 97
			d, window = mustDeque(t, k, d, push(n)), append(window, n)
			for len(window) > 1+i%23 {
				d, window = mustDeque(t, k, d, take), window[1:]
			}
			checkDequeNumber(t, k, d, window)
			if d.Drops > i || d.Next != i+1 || d.Next-d.First != len(window) {
				t.Fatalf("kind %d: after %d pushes, %v", k, i+1, d)
			}
		}
	}
}

// TestSpecialKinds: kinds that are none of those of the structure.
func TestSpecialKinds(t *testing.T) {
	lists := [][]impl.Op{nil, {push(5)}, {push(5), take}, {push(3), push(7)}, {take}, pairs(201)}
	for _, k := range otherKinds(inverseKinds) {
		for _, ops := range lists {
			rejectInverseRun(t, k, ops)
		}
		rejectInverse(t, k, impl.Inverse{})
		rejectInverse(t, k, impl.Inverse{Agg: value(1, 0, 0)})
		for of := 1; of <= 10; of++ {
			rejectInverse(t, k, inverseOf(of, nil))
			rejectInverse(t, k, inverseOf(of, []int{7, 3, 5}))
		}
	}
	for _, k := range otherKinds(dequeKinds) {
		for _, ops := range lists {
			rejectDequeRun(t, k, ops)
		}
		rejectDeque(t, k, impl.Deque{})
		for _, of := range dequeKinds {
			rejectDeque(t, k, dequeOf(of, []int{5}))
			rejectDeque(t, k, dequeOf(of, []int{7, 3, 5}))
		}
	}
	// The window of one kind is not that of another one whose aggregates differ.
	rejectInverse(t, impl.KindMap, inverseOf(impl.KindSum, nil))
	rejectInverse(t, impl.KindSum, inverseOf(impl.KindMap, nil))
	rejectInverse(t, impl.KindSum, inverseOf(impl.KindMean, []int{3}))
	rejectInverse(t, impl.KindMean, inverseOf(impl.KindCount, []int{3}))
	rejectDeque(t, impl.KindLeast, dequeOf(impl.KindMost, []int{7, 3}))
	rejectDeque(t, impl.KindMost, dequeOf(impl.KindLeast, []int{3, 7}))
}

// TestInverseAgg: Agg has to be the aggregate of Items, not only of some of them.
func TestInverseAgg(t *testing.T) {
	for _, k := range inverseKinds {
		for _, items := range [][]int{nil, {0}, {5}, {9, 1, 5}, directWindow(pushes(60))} {
			good := inverseOf(k, items)
			if !impl.InverseValid(k, good) {
				t.Fatalf("InverseValid(%d, %v) is false", k, good)
			}
			a := good.Agg
			others := []impl.Value{{}, value(1, 0, 0), value(-1, 0, 0), value(math.MaxInt, 0, 0), direct(k, append([]int{5}, items...)),
				value(a.X+1, a.Y, a.Z), value(a.X-1, a.Y, a.Z), value(a.X+97, a.Y, a.Z), value(a.X, a.Y+1, a.Z), value(a.X, a.Y-1, a.Z), value(a.X, a.Y, 1)}
			for _, v := range others {
				if v != a {
					rejectInverse(t, k, impl.Inverse{Items: items, Agg: v})
				}
			}
		}
	}
	// The same items in another order.
	rejectInverse(t, impl.KindMap, impl.Inverse{Items: []int{9, 1, 5}, Agg: direct(impl.KindMap, []int{5, 1, 9})})
}

// TestSpecialItemsInvalid: each of Items has to be an item.
func TestSpecialItemsInvalid(t *testing.T) {
	for _, n := range notItems {
		for at := range 3 {
			for _, k := range inverseKinds {
				w := inverseOf(k, []int{3, 7, 1})
				w.Items[at] = n
				rejectInverse(t, k, w)
				rejectInverse(t, k, inverseOf(k, w.Items))
			}
			for _, k := range dequeKinds {
				// In order, so that nothing but the item is not valid.
				low, high := min(n, 0), max(n, 96)
				list := [][]int{{n, high, high}, {low, n, high}, {low, low, n}}[at]
				if k == impl.KindMost {
					slices.Reverse(list)
				}
				rejectDeque(t, k, impl.Deque{Items: list, Places: []int{0, 1, 2}, Next: 3})
				d := dequeOf(k, []int{5, 5, 5})
				d.Items[at] = n
				rejectDeque(t, k, d)
			}
		}
	}
}

// TestSpecialStepInvalid: changes that are none, or that do not fit.
func TestSpecialStepInvalid(t *testing.T) {
	for _, list := range [][]int{nil, {5}, {7, 3, 5}, {3, 7, 7}} {
		for _, k := range inverseKinds {
			w := inverseOf(k, list)
			for _, n := range notItems {
				rejectInverseStep(t, k, w, push(n))
				rejectInverseStep(t, k, w, impl.Op{Item: n})
			}
			for _, n := range []int{1, 5, 96} {
				rejectInverseStep(t, k, w, impl.Op{Item: n})
			}
			mustInverse(t, k, w, push(0))
			mustInverse(t, k, w, push(96))
		}
		for _, k := range dequeKinds {
			d := dequeOf(k, list)
			for _, n := range notItems {
				rejectDequeStep(t, k, d, push(n))
				rejectDequeStep(t, k, d, impl.Op{Item: n})
			}
			for _, n := range []int{1, 5, 96} {
				rejectDequeStep(t, k, d, impl.Op{Item: n})
			}
			mustDeque(t, k, d, push(0))
			mustDeque(t, k, d, push(96))
		}
	}
	for _, k := range inverseKinds {
		rejectInverseStep(t, k, inverseOf(k, nil), take)
	}
	for _, k := range dequeKinds {
		rejectDequeStep(t, k, impl.Deque{}, take)
		rejectDequeStep(t, k, impl.Deque{First: 8, Next: 8, Drops: 3}, take)
	}
}

func TestSpecialRunInvalid(t *testing.T) {
	lists := [][]impl.Op{
		{take}, {take, push(1)}, {push(1), take, take, push(1)}, {push(1), {Item: 1}}, {push(1), {Item: -1}},
		pairs(201), pairs(1000), pushes(61), append(pushes(61), take, take),
	}
	for _, n := range notItems {
		lists = append(lists, []impl.Op{push(n)}, []impl.Op{push(1), push(n), take})
	}
	for _, ops := range lists {
		rejectSpecial(t, ops)
	}
}

// TestDequeValidAll: of all deques with a few items, places and numbers, exactly
// those of windows are accepted.
func TestDequeValidAll(t *testing.T) {
	lists, places := allLists([]int{3, 5, 7}, 3), allLists([]int{-1, 0, 1, 2, 3, 4}, 3)
	for _, k := range dequeKinds {
		fits := dequesOfWindows(k)
		for first := -1; first <= 2; first++ {
			for next := -1; next <= 4; next++ {
				for _, items := range lists {
					for _, at := range places {
						d := impl.Deque{Items: items, Places: at, First: first, Next: next}
						if got := impl.DequeValid(k, d); got != fits[keyOf(d)] {
							t.Fatalf("DequeValid(%d, %v) is %v", k, d, got)
						}
						if !fits[keyOf(d)] && len(items) == len(at) {
							rejectDeque(t, k, d)
						}
					}
				}
			}
		}
	}
}

// allLists are all lists of up to count of numbers.
func allLists(numbers []int, count int) [][]int {
	all := [][]int{nil}
	for next := 0; next < len(all); next++ {
		if len(all[next]) == count {
			break
		}
		for _, n := range numbers {
			all = append(all, append(slices.Clone(all[next]), n))
		}
	}
	return all
}

// dequesOfWindows are the keys of all deques of windows of up to 4 of five items,
// whose first place is at most 2.
func dequesOfWindows(k int) map[[10]int]bool {
	fits := map[[10]int]bool{}
	for _, window := range allLists([]int{0, 3, 5, 7, 96}, 4) {
		for first := range 3 {
			fits[keyOf(moved(dequeOf(k, window), first))] = true
		}
	}
	return fits
}

// keyOf has all of a deque with up to 4 items, but for Drops.
func keyOf(d impl.Deque) [10]int {
	key := [10]int{d.First, d.Next}
	for i := 2; i < 10; i++ {
		key[i] = -2
	}
	copy(key[2:6], d.Items)
	copy(key[6:], d.Places)
	return key
}

// TestDequePlacesFar: numbers and places far away, also such as fit if their differences overflow.
func TestDequePlacesFar(t *testing.T) {
	far := []int{math.MinInt, math.MinInt + 1, math.MinInt + 59, math.MinInt / 2, -61, -60, -2, -1, 0, 1, 2, 59, 60, 61, 1000000, 1000001, math.MaxInt / 2, math.MaxInt - 59, math.MaxInt - 1, math.MaxInt}
	for _, k := range dequeKinds {
		for _, first := range far {
			for _, next := range far {
				empty := first == next && 0 <= next && next <= 1000000
				d := impl.Deque{First: first, Next: next}
				if got := impl.DequeValid(k, d); got != empty {
					t.Fatalf("DequeValid(%d, %v) is %v", k, d, got)
				}
				for _, place := range append(far, next-1) {
					fits := 0 <= first && first <= place && place < next && place == next-1 && next <= 1000000 && next-first <= 60
					d := impl.Deque{Items: []int{5}, Places: []int{place}, First: first, Next: next}
					if got := impl.DequeValid(k, d); got != fits {
						t.Fatalf("DequeValid(%d, %v) is %v", k, d, got)
					}
					if !fits {
						rejectDeque(t, k, d)
					}
				}
			}
		}
	}
}

// TestDequeInvalid has deques that are valid but for one thing.
func TestDequeInvalid(t *testing.T) {
	good := impl.Deque{Items: []int{3, 5, 5, 8}, Places: []int{4, 6, 7, 9}, First: 3, Next: 10, Drops: 2}
	checkDequeNumber(t, impl.KindLeast, good, good.Items)
	places := [][]int{nil, {4, 6, 7}, {4, 6, 7, 9, 10}, {4, 6, 7, 8}, {4, 6, 7, 10}, {2, 6, 7, 9}, {4, 6, 6, 9}, {4, 7, 6, 9}, {6, 4, 7, 9}, {9, 9, 9, 9}, {4, 6, 9, 9}, {9, 7, 6, 4}, {-1, 6, 7, 9}, {4, 11, 7, 9}}
	for _, at := range places {
		bad := good
		bad.Places = at
		rejectDeque(t, impl.KindLeast, bad)
	}
	items := [][]int{nil, {3, 5, 5}, {3, 5, 5, 8, 8}, {5, 3, 5, 8}, {3, 5, 8, 5}, {3, 5, 4, 8}, {8, 5, 5, 3}, {97, 97, 97, 97}, {-1, 5, 5, 8}}
	for _, list := range items {
		bad := good
		bad.Items = list
		rejectDeque(t, impl.KindLeast, bad)
	}
	for _, n := range []int{-1, 0, 3, 9, 11, 1000001} {
		bad := good
		bad.Next = n
		rejectDeque(t, impl.KindLeast, bad)
	}
	for _, n := range []int{-1, 5, 10, 11} {
		bad := good
		bad.First = n
		rejectDeque(t, impl.KindLeast, bad)
	}
	// Places without items, and a window with items of which none is kept.
	rejectDeque(t, impl.KindLeast, impl.Deque{Places: []int{0}, Next: 1})
	rejectDeque(t, impl.KindLeast, impl.Deque{Items: []int{5}, Next: 1})
	rejectDeque(t, impl.KindLeast, impl.Deque{First: 3, Next: 4})
	rejectDeque(t, impl.KindLeast, impl.Deque{First: 4, Next: 3})
	// Equal items are in order for both kinds; others for one of them.
	same := impl.Deque{Items: []int{5, 5}, Places: []int{0, 1}, Next: 2}
	checkDequeNumber(t, impl.KindLeast, same, same.Items)
	checkDequeNumber(t, impl.KindMost, same, same.Items)
	slices.Reverse(good.Items)
	rejectDeque(t, impl.KindLeast, good)
	checkDequeNumber(t, impl.KindMost, good, good.Items)
}

// roomyDeque is d in memory of its own, with spare capacity that is not empty.
func roomyDeque(d impl.Deque) impl.Deque {
	d.Items, d.Places = roomyItems(d.Items), roomyItems(d.Places)
	return d
}

// wholeDeque is d with its spare capacity.
func wholeDeque(d impl.Deque) impl.Deque {
	d.Items, d.Places = d.Items[:cap(d.Items)], d.Places[:cap(d.Places)]
	return d
}

// TestSpecialStepOwn: the result of a step has memory of its own, and the
// argument keeps its memory, also what is beyond its length.
func TestSpecialStepOwn(t *testing.T) {
	items := directWindow(pushes(60))
	for size := 0; size <= 60; size++ {
		changes := []impl.Op{push(0), push(50), push(96), take}
		if size == 60 {
			changes = changes[3:]
		}
		if size == 0 {
			changes = changes[:3]
		}
		for _, op := range changes {
			for _, k := range inverseKinds {
				checkInverseOwn(t, k, items[:size], op)
			}
			for _, k := range dequeKinds {
				checkDequeOwn(t, k, dequeOf(k, items[:size]), op)
				checkDequeOwn(t, k, dequeOf(k, make([]int, size)), op)
			}
		}
	}
}

func checkInverseOwn(t *testing.T, k int, items []int, op impl.Op) {
	t.Helper()
	w := impl.Inverse{Items: roomyItems(items), Agg: direct(k, items)}
	before := slices.Clone(w.Items[:cap(w.Items)])
	first := mustInverse(t, k, w, op)
	second := mustInverse(t, k, w, op)
	want := cloneInverse(first)
	if !slices.Equal(w.Items[:cap(w.Items)], before) {
		t.Fatalf("InverseStep(%d, %v, %v) writes on its argument", k, w, op)
	}
	spoilNumbers(first.Items)
	if !slices.Equal(w.Items[:cap(w.Items)], before) {
		t.Fatalf("InverseStep(%d, %v, %v) shares memory with its argument", k, w, op)
	}
	spoilNumbers(w.Items)
	if !sameInverse(second, want) {
		t.Fatalf("the results of InverseStep(%d) of %v and %v share memory", k, items, op)
	}
}

func checkDequeOwn(t *testing.T, k int, plain impl.Deque, op impl.Op) {
	t.Helper()
	d := roomyDeque(plain)
	before := cloneDeque(wholeDeque(d))
	impl.DequeNumber(k, d)
	first := mustDeque(t, k, d, op)
	second := mustDeque(t, k, d, op)
	want := cloneDeque(first)
	if !sameDeque(wholeDeque(d), before) {
		t.Fatalf("DequeStep(%d, %v, %v) writes on its argument", k, d, op)
	}
	spoilNumbers(first.Items)
	if !slices.Equal(first.Places, want.Places) {
		t.Fatalf("items and places of DequeStep(%d, %v, %v) share memory", k, d, op)
	}
	spoilNumbers(first.Places)
	if !sameDeque(wholeDeque(d), before) {
		t.Fatalf("DequeStep(%d, %v, %v) shares memory with its argument", k, d, op)
	}
	spoilNumbers(d.Items)
	spoilNumbers(d.Places)
	if !sameDeque(second, want) {
		t.Fatalf("the results of DequeStep(%d) of %v and %v share memory", k, plain, op)
	}
}

// TestSpecialRunOwn: windows, deques and numbers have memory of their own, in every call.
func TestSpecialRunOwn(t *testing.T) {
	ops := append(pushes(9), take, take, push(3), push(4), take)
	for count := range len(ops) + 1 {
		list := append(slices.Clone(ops[:count]), make([]impl.Op, 40)...)
		before := slices.Clone(list)
		for _, k := range inverseKinds {
			w, numbers, _ := impl.InverseRun(k, list[:count])
			want := slices.Clone(numbers)
			spoilNumbers(w.Items)
			if !slices.Equal(numbers, want) {
				t.Fatalf("InverseRun(%d, %v): the window and the numbers share memory", k, list[:count])
			}
			spoilNumbers(numbers)
		}
		for _, k := range dequeKinds {
			d, numbers, _ := impl.DequeRun(k, list[:count])
			want, places := slices.Clone(numbers), slices.Clone(d.Places)
			spoilNumbers(d.Items)
			if !slices.Equal(numbers, want) || !slices.Equal(d.Places, places) {
				t.Fatalf("DequeRun(%d, %v): the results share memory", k, list[:count])
			}
			spoilNumbers(d.Places)
			if !slices.Equal(numbers, want) {
				t.Fatalf("DequeRun(%d, %v): the results share memory", k, list[:count])
			}
			spoilNumbers(numbers)
		}
		if !slices.Equal(list, before) {
			t.Fatalf("a run of %v writes on its argument", before[:count])
		}
		// All results once more.
		checkSpecial(t, list[:count])
	}
}
