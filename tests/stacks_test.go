package tests

import (
	"math"
	"slices"
	"testing"

	"loop.example/windowaggregates/impl"
)

// plainStacks is a window, how many of its items are in front, and both
// counters: all that says what two stacks are, without aggregates.
type plainStacks struct {
	window  []int
	front   int
	flips   int
	combine int
}

func (p *plainStacks) change(op impl.Op) {
	if op.Push {
		p.window = append(p.window, op.Item)
		p.combine++
		return
	}
	if p.front == 0 {
		p.front = len(p.window)
		p.combine += p.front
		p.flips++
	}
	p.window = p.window[1:]
	p.front--
}

// stacks are p with aggregates that are not combined from others.
func (p *plainStacks) stacks(k int) impl.Stacks {
	s := impl.Stacks{Flips: p.flips, Combine: p.combine}
	for from := p.front - 1; from >= 0; from-- {
		s.Front = append(s.Front, direct(k, p.window[from:p.front]))
	}
	s.Items = slices.Clone(p.window[p.front:])
	s.Back = direct(k, s.Items)
	return s
}

// stacksOf are the stacks of items, of which so many are in front.
func stacksOf(k int, items []int, front int) impl.Stacks {
	p := plainStacks{window: items, front: front}
	return p.stacks(k)
}

func sameStacks(a, b impl.Stacks) bool {
	return slices.Equal(a.Front, b.Front) && slices.Equal(a.Items, b.Items) && a.Back == b.Back && a.Flips == b.Flips && a.Combine == b.Combine
}

func cloneStacks(s impl.Stacks) impl.Stacks {
	s.Front, s.Items = slices.Clone(s.Front), slices.Clone(s.Items)
	return s
}

func mustStart(t *testing.T, k int) impl.Stacks {
	t.Helper()
	s, ok := impl.StacksStart(k)
	if !ok {
		t.Fatalf("StacksStart(%d) returns false", k)
	}
	return s
}

// mustStep makes a change, and checks that it leaves its argument as it was.
func mustStep(t *testing.T, k int, s impl.Stacks, op impl.Op) impl.Stacks {
	t.Helper()
	before := cloneStacks(s)
	next, ok := impl.StacksStep(k, s, op)
	if !ok || !impl.StacksValid(k, next) {
		t.Fatalf("StacksStep(%d, %v, %v) = %v, %v", k, s, op, next, ok)
	}
	if !sameStacks(s, before) {
		t.Fatalf("StacksStep(%d, %v, %v) changes its argument to %v", k, before, op, s)
	}
	return next
}

// rejectStep checks that a change cannot be made.
func rejectStep(t *testing.T, k int, s impl.Stacks, op impl.Op) {
	t.Helper()
	before := cloneStacks(s)
	next, ok := impl.StacksStep(k, s, op)
	if ok || !sameStacks(next, impl.Stacks{}) {
		t.Errorf("StacksStep(%d, %v, %v) = %v, %v", k, s, op, next, ok)
	}
	if !sameStacks(s, before) {
		t.Errorf("StacksStep(%d, %v, %v) changes its argument to %v", k, before, op, s)
	}
}

// rejectStacks checks that no function accepts s as stacks of a kind.
func rejectStacks(t *testing.T, k int, s impl.Stacks) {
	t.Helper()
	if impl.StacksValid(k, s) {
		t.Errorf("StacksValid(%d, %v) is true", k, s)
	}
	if v, ok := impl.StacksValue(k, s); ok || v != (impl.Value{}) {
		t.Errorf("StacksValue(%d, %v) = %v, %v", k, s, v, ok)
	}
	rejectStep(t, k, s, push(5))
	rejectStep(t, k, s, take)
	if n := impl.StacksSize(s); n != len(s.Front)+len(s.Items) {
		t.Errorf("StacksSize(%v) = %d", s, n)
	}
}

func rejectRun(t *testing.T, k int, ops []impl.Op) {
	t.Helper()
	s, numbers, ok := impl.StacksRun(k, ops)
	if ok || !sameStacks(s, impl.Stacks{}) || len(numbers) != 0 {
		t.Errorf("StacksRun(%d, %v) = %v, %v, %v", k, ops, s, numbers, ok)
	}
}

// checkValue checks the aggregate of the stacks of a window, and their size.
func checkValue(t *testing.T, k int, s impl.Stacks, window []int) {
	t.Helper()
	if v, ok := impl.StacksValue(k, s); !ok || v != direct(k, window) {
		t.Fatalf("StacksValue(%d, %v) = %v, %v, not that of %v", k, s, v, ok, window)
	}
	if n := impl.StacksSize(s); n != len(window) {
		t.Fatalf("StacksSize(%v) = %d, not %d", s, n, len(window))
	}
}

// checkStacks checks the stacks after each of the valid changes ops, and all numbers.
func checkStacks(t *testing.T, k int, ops []impl.Op) {
	t.Helper()
	before := slices.Clone(ops)
	s, p, want := mustStart(t, k), plainStacks{}, []int{}
	checkValue(t, k, s, nil)
	for i, op := range ops {
		s = mustStep(t, k, s, op)
		p.change(op)
		if !sameStacks(s, p.stacks(k)) {
			t.Fatalf("kind %d: %v have the stacks %v, not %v", k, ops[:i+1], s, p.stacks(k))
		}
		checkValue(t, k, s, p.window)
		want = append(want, directNumber(k, p.window))
	}
	run, numbers, ok := impl.StacksRun(k, ops)
	if !ok || !sameStacks(run, s) || !slices.Equal(numbers, want) {
		t.Fatalf("StacksRun(%d, %v) = %v, %v, %v, not %v, %v", k, ops, run, numbers, ok, s, want)
	}
	if queries, ok := impl.QueriesOf(k, ops); !ok || !slices.Equal(numbers, queries) {
		t.Fatalf("StacksRun(%d, %v) has %v, and QueriesOf %v, %v", k, ops, numbers, queries, ok)
	}
	if !slices.Equal(ops, before) {
		t.Fatalf("%v has become %v", before, ops)
	}
}

// TestPromise3Short: all short lists of three changes, up to the first one that cannot be made.
func TestPromise3Short(t *testing.T) {
	lists := [][]impl.Op{nil}
	for next := 0; next < len(lists); next++ {
		ops := lists[next]
		for k := 1; k <= 10; k++ {
			if impl.OpsValid(ops) {
				checkStacks(t, k, ops)
			} else {
				rejectRun(t, k, ops)
			}
		}
		if len(ops) == 7 || !impl.OpsValid(ops) {
			continue
		}
		for _, op := range []impl.Op{push(7), push(30), take} {
			lists = append(lists, append(slices.Clone(ops), op))
		}
	}
}

// TestPromise3Long: 200 changes, and one too many.
func TestPromise3Long(t *testing.T) {
	for _, ops := range longLists(20) {
		for k := 1; k <= 10; k++ {
			checkStacks(t, k, ops)
			rejectRun(t, k, append(ops, push(0)))
		}
	}
}

// TestPromise3Slides: windows of some sizes over 60 items, with flips of as many items.
func TestPromise3Slides(t *testing.T) {
	items := directWindow(pushes(60))
	for _, size := range []int{1, 2, 3, 7, 30, 58, 59} {
		ops, ok := impl.SlideOps(items, size)
		if !ok {
			t.Fatalf("SlideOps of size %d returns false", size)
		}
		for k := 1; k <= 10; k++ {
			checkStacks(t, k, ops)
		}
	}
}

// TestPromise3Order has numbers by hand: the order of items matters on both sides of a flip.
func TestPromise3Order(t *testing.T) {
	ops := []impl.Op{push(9), push(1), push(5), take, push(7), take}
	wants := [][]int{{},
		{9, 10, 15, 6, 13, 12}, {1, 2, 3, 2, 3, 2}, {9, 1, 1, 1, 1, 5}, {9, 9, 9, 5, 7, 7}, {9, 9, 9, 1, 1, 5},
		{9, 1, 5, 5, 7, 7}, {9, 5, 5, 3, 4, 6}, {10, 21, 34, 23, 94, 95}, {0, 0, 1, 1, 2, 1}, {0, 0, 0, 1, 2, 1},
	}
	for k := 1; k <= 10; k++ {
		checkStacks(t, k, ops)
		if _, numbers, ok := impl.StacksRun(k, ops); !ok || !slices.Equal(numbers, wants[k]) {
			t.Errorf("StacksRun(%d) has %v, %v, not %v", k, numbers, ok, wants[k])
		}
	}
	s, _, ok := impl.StacksRun(impl.KindMap, ops[:4])
	want := impl.Stacks{Front: []impl.Value{value(6, 5, 0), value(12, 11, 0)}, Back: value(1, 0, 0), Flips: 1, Combine: 6}
	if !ok || !sameStacks(s, want) {
		t.Errorf("StacksRun = %v, %v, not %v", s, ok, want)
	}
	s, _, ok = impl.StacksRun(impl.KindMap, ops)
	want = impl.Stacks{Front: []impl.Value{value(6, 5, 0)}, Items: []int{7}, Back: value(8, 7, 0), Flips: 1, Combine: 7}
	if !ok || !sameStacks(s, want) {
		t.Errorf("StacksRun = %v, %v, not %v", s, ok, want)
	}
}

// TestStacksExample has the document's example.
func TestStacksExample(t *testing.T) {
	s, numbers, ok := impl.StacksRun(impl.KindMost, []impl.Op{push(3), push(7), take})
	want := impl.Stacks{Front: []impl.Value{value(7, 1, 0)}, Flips: 1, Combine: 4}
	if !ok || !sameStacks(s, want) || !slices.Equal(numbers, []int{3, 7, 7}) {
		t.Errorf("StacksRun = %v, %v, %v", s, numbers, ok)
	}
}

func TestStacksStart(t *testing.T) {
	for k := 1; k <= 10; k++ {
		unit, _ := impl.UnitOf(k)
		s := mustStart(t, k)
		if !sameStacks(s, impl.Stacks{Back: unit}) || !impl.StacksValid(k, s) {
			t.Errorf("StacksStart(%d) = %v", k, s)
		}
		run, numbers, ok := impl.StacksRun(k, nil)
		if !ok || !sameStacks(run, s) || len(numbers) != 0 {
			t.Errorf("StacksRun(%d) of no changes = %v, %v, %v", k, run, numbers, ok)
		}
		rejectStep(t, k, s, take)
	}
}

func TestStacksKinds(t *testing.T) {
	for _, k := range notKinds {
		if s, ok := impl.StacksStart(k); ok || !sameStacks(s, impl.Stacks{}) {
			t.Errorf("StacksStart(%d) = %v, %v", k, s, ok)
		}
		rejectRun(t, k, nil)
		rejectRun(t, k, []impl.Op{push(5), take})
		rejectStacks(t, k, impl.Stacks{})
		for of := 1; of <= 10; of++ {
			rejectStacks(t, k, stacksOf(of, []int{3, 7, 1}, 2))
		}
	}
	// The stacks of one kind are not those of another one whose aggregates differ.
	rejectStacks(t, impl.KindMap, stacksOf(impl.KindSum, nil, 0))
	rejectStacks(t, impl.KindSum, stacksOf(impl.KindMean, []int{3, 7}, 2))
	rejectStacks(t, impl.KindLeast, stacksOf(impl.KindMost, []int{3, 7}, 0))
}

// TestFlipOne: a flip of one item, first with nothing before it, then behind a front.
func TestFlipOne(t *testing.T) {
	for k := 1; k <= 10; k++ {
		s := mustStep(t, k, mustStep(t, k, mustStart(t, k), push(5)), take)
		want := mustStart(t, k)
		want.Flips, want.Combine = 1, 2
		if !sameStacks(s, want) {
			t.Errorf("kind %d: +5 - have the stacks %v", k, s)
		}
		s = stacksOf(k, []int{8, 3}, 1)
		s = mustStep(t, k, s, take)
		if want = stacksOf(k, []int{3}, 0); !sameStacks(s, want) {
			t.Errorf("kind %d: %v, not %v", k, s, want)
		}
		s = mustStep(t, k, s, take)
		want = mustStart(t, k)
		want.Flips, want.Combine = 1, 1
		if !sameStacks(s, want) {
			t.Errorf("kind %d: %v, not %v", k, s, want)
		}
	}
}

// TestStacksEmptyBetween: a window that gets empty begins anew, but goes on counting.
func TestStacksEmptyBetween(t *testing.T) {
	ops := []impl.Op{push(5), take, push(8), push(2), take, take, push(1)}
	for k := 1; k <= 10; k++ {
		checkStacks(t, k, ops)
		s, numbers, _ := impl.StacksRun(k, ops[:6])
		want := mustStart(t, k)
		want.Flips, want.Combine = 2, 6
		if !sameStacks(s, want) || numbers[1] != numbers[5] {
			t.Errorf("StacksRun(%d) = %v, %v", k, s, numbers)
		}
		rejectStep(t, k, s, take)
		s = mustStep(t, k, s, push(1))
		want = stacksOf(k, []int{1}, 0)
		want.Flips, want.Combine = 2, 7
		if !sameStacks(s, want) {
			t.Errorf("kind %d: %v, not %v", k, s, want)
		}
	}
	wants := [][]int{{}, {5, 0, 8}, {1, 0, 1}, {5, -1, 8}, {5, -1, 8}, {5, -1, 8}, {5, -1, 8}, {5, -1, 8}, {11, 1, 17}, {0, 0, 0}, {0, -1, 0}}
	for k := 1; k <= 10; k++ {
		if _, numbers, _ := impl.StacksRun(k, ops[:3]); !slices.Equal(numbers, wants[k]) {
			t.Errorf("StacksRun(%d) has %v, not %v", k, numbers, wants[k])
		}
	}
}

// TestStacksFull: MaxSize elements together, wherever the front ends, and one more.
func TestStacksFull(t *testing.T) {
	items := directWindow(pushes(62))
	for k := 1; k <= 10; k++ {
		for front := 0; front <= 60; front++ {
			s := stacksOf(k, items[:60], front)
			if !impl.StacksValid(k, s) {
				t.Fatalf("StacksValid(%d, %v) is false", k, s)
			}
			checkValue(t, k, s, items[:60])
			rejectStep(t, k, s, push(5))
			s = mustStep(t, k, s, take)
			checkValue(t, k, s, items[1:60])
			s = mustStep(t, k, s, push(items[60]))
			checkValue(t, k, s, items[1:61])
			rejectStep(t, k, s, push(5))
			rejectStacks(t, k, stacksOf(k, items[:61], front))
		}
		rejectStacks(t, k, stacksOf(k, items[:61], 61))
		rejectStacks(t, k, impl.Stacks{Front: slices.Repeat([]impl.Value{direct(k, []int{5})}, 1000), Back: direct(k, nil)})
		rejectRun(t, k, pushes(61))
		checkStacks(t, k, append(pushes(60), slices.Repeat([]impl.Op{take, push(5)}, 70)...))
		checkStacks(t, k, append(pushes(60), slices.Repeat([]impl.Op{take}, 60)...))
	}
}

// TestStacksCounters: a counter from 0 to 1000000 is valid, and a change is made up to 900000.
func TestStacksCounters(t *testing.T) {
	items := directWindow(pushes(60))
	for k := 1; k <= 10; k++ {
		for _, s := range []impl.Stacks{stacksOf(k, nil, 0), stacksOf(k, items[:59], 0), stacksOf(k, items[:59], 59), stacksOf(k, items, 0)} {
			for _, n := range []int{0, 1, 899999, 900000, 900001, 999999, 1000000, 1000001, -1, math.MinInt, math.MaxInt} {
				flips, combine, both := s, s, s
				flips.Flips, combine.Combine, both.Flips, both.Combine = n, n, n, n
				checkCounters(t, k, flips, n)
				checkCounters(t, k, combine, n)
				checkCounters(t, k, both, n)
			}
		}
	}
}

// checkCounters checks s, in which n is the greatest counter, or one that is not valid.
func checkCounters(t *testing.T, k int, s impl.Stacks, n int) {
	t.Helper()
	if n < 0 || n > 1000000 {
		rejectStacks(t, k, s)
		return
	}
	if _, ok := impl.StacksValue(k, s); !ok || !impl.StacksValid(k, s) {
		t.Fatalf("StacksValid(%d, %v) is false", k, s)
	}
	if n > 900000 {
		rejectStep(t, k, s, push(5))
		rejectStep(t, k, s, take)
		return
	}
	size := impl.StacksSize(s)
	if size < 60 {
		next := mustStep(t, k, s, push(5))
		if next.Flips != s.Flips || next.Combine != s.Combine+1 {
			t.Errorf("StacksStep(%d, %v) of a push = %v", k, s, next)
		}
	}
	if size > 0 {
		flips, combine := s.Flips, s.Combine
		if len(s.Front) == 0 {
			flips, combine = flips+1, combine+size
		}
		next := mustStep(t, k, s, take)
		if next.Flips != flips || next.Combine != combine {
			t.Errorf("StacksStep(%d, %v) of a take = %v", k, s, next)
		}
	}
}

// TestStacksStepMany: steps are not limited to the number of changes in a list,
// and no more than two combinations belong to a push.
func TestStacksStepMany(t *testing.T) {
	for k := 1; k <= 10; k++ {
		s, window := mustStart(t, k), []int{}
		for i := range 1500 {
			n := i * 53 % 97
			s, window = mustStep(t, k, s, push(n)), append(window, n)
			if len(window) > 1+i%23 {
				s, window = mustStep(t, k, s, take), window[1:]
			}
			checkValue(t, k, s, window)
			if s.Combine > 2*(i+1) {
				t.Fatalf("kind %d: %d pushes take %d combinations", k, i+1, s.Combine)
			}
		}
	}
}

// TestStacksStepInvalid: changes that are none, or that do not fit.
func TestStacksStepInvalid(t *testing.T) {
	for k := 1; k <= 10; k++ {
		for _, s := range []impl.Stacks{stacksOf(k, nil, 0), stacksOf(k, []int{5}, 0), stacksOf(k, []int{5}, 1), stacksOf(k, []int{3, 7, 1}, 2)} {
			for _, n := range notItems {
				rejectStep(t, k, s, push(n))
				rejectStep(t, k, s, impl.Op{Item: n})
			}
			for _, n := range []int{1, 5, 96} {
				rejectStep(t, k, s, impl.Op{Item: n})
			}
			mustStep(t, k, s, push(0))
			mustStep(t, k, s, push(96))
		}
		rejectStep(t, k, stacksOf(k, nil, 0), take)
	}
}

func TestStacksRunInvalid(t *testing.T) {
	lists := [][]impl.Op{
		{take}, {take, push(1)}, {push(1), take, take, push(1)}, {push(1), {Item: 1}}, {push(1), {Item: -1}},
		pairs(201), pairs(1000), pushes(61), append(pushes(61), take, take),
	}
	for _, n := range notItems {
		lists = append(lists, []impl.Op{push(n)}, []impl.Op{push(1), push(n), take})
	}
	for k := 1; k <= 10; k++ {
		for _, ops := range lists {
			rejectRun(t, k, ops)
		}
		checkStacks(t, k, pairs(200))
	}
}

// TestStacksFrontInvalid: each element of Front has to be an aggregate of the kind.
func TestStacksFrontInvalid(t *testing.T) {
	for k := 1; k <= 10; k++ {
		bad := []impl.Value{value(-1, 0, 0), value(97, 97, 97), value(0, math.MinInt, 0), value(0, 0, -1)}
		if k == impl.KindMap {
			bad = append(bad, impl.Value{})
		}
		for _, v := range bad {
			for at := range 3 {
				s := stacksOf(k, []int{3, 7, 1, 5}, 3)
				s.Front[at] = v
				rejectStacks(t, k, s)
			}
		}
	}
}

// TestStacksItemsInvalid: each of Items has to be an item, and Back their aggregate.
func TestStacksItemsInvalid(t *testing.T) {
	for k := 1; k <= 10; k++ {
		for _, n := range notItems {
			for at := range 3 {
				s := stacksOf(k, []int{8, 3, 7, 1}, 1)
				s.Items[at] = n
				rejectStacks(t, k, s)
				s.Back = direct(k, s.Items)
				rejectStacks(t, k, s)
			}
		}
		for front := range 3 {
			items := []int{60, 50, 3, 7, 1, 9}
			for _, other := range [][]int{nil, {3, 7, 1}, {50}, {8, 2, 8, 5, 6, 7, 96, 0, 4}} {
				s := stacksOf(k, items, front)
				s.Back = direct(k, other)
				if s.Back == direct(k, s.Items) {
					continue // for a KindMost, say, another row can have the same aggregate
				}
				rejectStacks(t, k, s)
			}
		}
		s := stacksOf(k, []int{9, 1, 5}, 3)
		s.Back = direct(k, []int{5})
		rejectStacks(t, k, s)
		s.Back = value(0, 0, 1)
		rejectStacks(t, k, s)
		if !impl.Commutes(k) {
			s = stacksOf(k, []int{3, 9, 1, 5}, 1)
			s.Back = direct(k, []int{5, 1, 9})
			rejectStacks(t, k, s)
		}
	}
	rejectStacks(t, impl.KindMap, impl.Stacks{})
}

// TestStacksAnyFront: StacksValid does not ask whether Front can be that of items,
// and only its last element counts.
func TestStacksAnyFront(t *testing.T) {
	fronts := [][]impl.Value{{},
		{value(96, 0, 0), value(0, 0, 0), value(5, 0, 0)},
		{value(1000000, 0, 0), value(0, 0, 0), value(40, 0, 0)},
		{value(3, 1, 0), {}, value(9, 1, 0)},
		{value(9, 1, 0), {}, value(3, 1, 0)},
		{value(9, 1, 0), {}, value(3, 1, 0)},
		{value(9, 1, 0), {}, value(3, 1, 0)},
		{value(960000, 10000, 0), {}, value(1, 1000, 0)},
		{value(96, 96, 0), value(50, 0, 0), value(7, 3, 0)},
		{value(9, 1, 70), {}, value(3, 5, 1)},
		{value(9, 1, 70), {}, value(3, 5, 6)},
	}
	for k := 1; k <= 10; k++ {
		front := fronts[k]
		s := impl.Stacks{Front: front, Items: []int{8, 2}, Back: direct(k, []int{8, 2}), Flips: 3, Combine: 2}
		if !impl.StacksValid(k, s) {
			t.Fatalf("StacksValid(%d, %v) is false", k, s)
		}
		for left := 1; left <= 3; left++ {
			part := s
			part.Front = front[:left]
			want, wantOK := impl.CombineValues(k, front[left-1], s.Back)
			if v, ok := impl.StacksValue(k, part); ok != wantOK || v != want {
				t.Errorf("StacksValue(%d, %v) = %v, %v, not %v, %v", k, part, v, ok, want, wantOK)
			}
		}
		pushed := mustStep(t, k, s, push(4))
		want := impl.Stacks{Front: front, Items: []int{8, 2, 4}, Back: direct(k, []int{8, 2, 4}), Flips: 3, Combine: 3}
		if !sameStacks(pushed, want) {
			t.Errorf("StacksStep(%d, %v) = %v, not %v", k, s, pushed, want)
		}
		for left := 2; left >= 0; left-- {
			pushed = mustStep(t, k, pushed, take)
			want.Front = front[:left]
			if !sameStacks(pushed, want) {
				t.Errorf("kind %d: %v, not %v", k, pushed, want)
			}
		}
		pushed = mustStep(t, k, pushed, take)
		if want = stacksOf(k, []int{2, 4}, 2); !slices.Equal(pushed.Front, want.Front) || pushed.Flips != 4 || pushed.Combine != 6 {
			t.Errorf("kind %d: %v", k, pushed)
		}
	}
}

// TestStacksValuePast: a front and a back that are valid alone, but past a limit
// together, have no value; changes can be made of them nevertheless.
func TestStacksValuePast(t *testing.T) {
	cases := []struct {
		k     int
		last  impl.Value
		items []int
		want  impl.Value
		ok    bool
	}{
		{impl.KindCount, value(1000000, 0, 0), nil, value(1000000, 0, 0), true},
		{impl.KindCount, value(999999, 0, 0), []int{5}, value(1000000, 0, 0), true},
		{impl.KindCount, value(1000000, 0, 0), []int{5}, impl.Value{}, false},
		{impl.KindCount, value(999999, 0, 0), []int{5, 6}, impl.Value{}, false},
		{impl.KindMean, value(960000, 10000, 0), nil, value(960000, 10000, 0), true},
		{impl.KindMean, value(7, 9999, 0), []int{5}, value(12, 10000, 0), true},
		{impl.KindMean, value(0, 10000, 0), []int{5}, impl.Value{}, false},
		{impl.KindRise, value(3, 5, 1000000), []int{5}, value(3, 5, 1000000), true},
		{impl.KindRise, value(3, 5, 1000000), []int{6}, impl.Value{}, false},
		{impl.KindRise, value(3, 5, 1000000), []int{5, 6}, impl.Value{}, false},
		{impl.KindPlace, value(3, 2, 999999), []int{5}, value(5, 999999, 1000000), true},
		{impl.KindPlace, value(3, 2, 1000000), []int{1}, impl.Value{}, false},
	}
	for _, c := range cases {
		s := impl.Stacks{Front: []impl.Value{c.last}, Items: c.items, Back: direct(c.k, c.items)}
		if !impl.StacksValid(c.k, s) {
			t.Errorf("StacksValid(%d, %v) is false", c.k, s)
		}
		if v, ok := impl.StacksValue(c.k, s); ok != c.ok || v != c.want {
			t.Errorf("StacksValue(%d, %v) = %v, %v, not %v", c.k, s, v, ok, c.want)
		}
		mustStep(t, c.k, s, push(96))
		checkValue(t, c.k, mustStep(t, c.k, s, take), c.items)
	}
}

func TestStacksSize(t *testing.T) {
	for _, front := range []int{0, 1, 2, 60, 61, 500} {
		for _, back := range []int{0, 1, 2, 60, 61, 500} {
			s := impl.Stacks{Front: make([]impl.Value, front), Items: make([]int, back), Back: value(-1, -1, -1), Flips: -1, Combine: -1}
			if n := impl.StacksSize(s); n != front+back {
				t.Errorf("StacksSize of %d and %d elements = %d", front, back, n)
			}
		}
	}
}

// roomy is s in memory of its own, with spare capacity that is not empty.
func roomy(s impl.Stacks) impl.Stacks {
	front := slices.Repeat([]impl.Value{value(-7, -7, -7)}, len(s.Front)+70)
	items := slices.Repeat([]int{-7}, len(s.Items)+70)
	copy(front, s.Front)
	copy(items, s.Items)
	s.Front, s.Items = front[:len(s.Front)], items[:len(s.Items)]
	return s
}

// whole is s with its spare capacity.
func whole(s impl.Stacks) impl.Stacks {
	s.Front, s.Items = s.Front[:cap(s.Front)], s.Items[:cap(s.Items)]
	return s
}

// spoil writes on all memory of s, its spare capacity as well.
func spoil(s impl.Stacks) {
	s = whole(s)
	for i := range s.Front {
		s.Front[i] = value(-9, -9, -9)
	}
	for i := range s.Items {
		s.Items[i] = -9
	}
}

// TestStacksStepOwn: the result of a step has memory of its own, and the
// argument keeps its memory, also what is beyond its length.
func TestStacksStepOwn(t *testing.T) {
	items := directWindow(pushes(60))
	for k := 1; k <= 10; k++ {
		for size := 0; size <= 60; size += 4 {
			for front := 0; front <= size; front += 4 {
				s := stacksOf(k, items[:size], front)
				if size < 60 {
					checkOwn(t, k, roomy(s), push(5))
				}
				if size > 0 {
					checkOwn(t, k, roomy(s), take)
				}
			}
		}
	}
}

func checkOwn(t *testing.T, k int, s impl.Stacks, op impl.Op) {
	t.Helper()
	before := cloneStacks(whole(s))
	first := mustStep(t, k, s, op)
	second := mustStep(t, k, s, op)
	impl.StacksValue(k, s)
	want := cloneStacks(first)
	if !sameStacks(whole(s), before) {
		t.Fatalf("StacksStep(%d, %v, %v) writes on its argument", k, s, op)
	}
	spoil(first)
	if !sameStacks(whole(s), before) {
		t.Fatalf("StacksStep(%d, %v, %v) shares memory with its argument", k, s, op)
	}
	if !sameStacks(second, want) {
		t.Fatalf("two results of StacksStep(%d, %v, %v) share memory", k, s, op)
	}
	spoil(s)
	if !sameStacks(second, want) {
		t.Fatalf("StacksStep(%d, %v, %v) keeps memory of its argument", k, before, op)
	}
}

// TestStacksRunOwn: stacks and numbers have memory of their own, in every call.
func TestStacksRunOwn(t *testing.T) {
	ops := append(pushes(9), take, take, push(3), push(4))
	for k := 1; k <= 10; k++ {
		for count := range len(ops) + 1 {
			list := append(slices.Clone(ops[:count]), make([]impl.Op, 40)...)
			before := slices.Clone(list)
			s, numbers, _ := impl.StacksRun(k, list[:count])
			again, againNumbers, _ := impl.StacksRun(k, list[:count])
			if !slices.Equal(list, before) {
				t.Fatalf("StacksRun(%d, %v) writes on its argument", k, before[:count])
			}
			spoil(s)
			if !slices.Equal(numbers, againNumbers) {
				t.Fatalf("StacksRun(%d, %v): stacks and numbers share memory", k, before[:count])
			}
			whole := numbers[:cap(numbers)]
			for i := range whole {
				whole[i] = -9
			}
			queries, _ := impl.QueriesOf(k, before[:count])
			var p plainStacks
			for _, op := range before[:count] {
				p.change(op)
			}
			if !sameStacks(again, p.stacks(k)) || !slices.Equal(againNumbers, queries) {
				t.Fatalf("two results of StacksRun(%d, %v) share memory", k, before[:count])
			}
		}
	}
}
