package tests

import (
	"math"
	"slices"
	"testing"

	"loop.example/windowaggregates/impl"
)

// plainQueue is a window, how many of its items are in front of B, how many are
// from R up to A, how many from A up to B, and the counter: all that says what a
// queue is, without places and aggregates.
type plainQueue struct {
	window  []int
	front   int
	mid     int
	rest    int
	combine int
}

func (p *plainQueue) change(op impl.Op) {
	if op.Push {
		p.window = append(p.window, op.Item)
		p.combine++
	} else {
		p.window = p.window[1:]
		p.front--
	}
	switch {
	case p.front <= 0:
		p.front, p.mid, p.rest = len(p.window), 0, 0
	case p.mid > 0:
		p.mid, p.rest = p.mid-1, p.rest+1
		p.combine += 3
	case p.rest > 0:
		p.rest--
	default:
		p.mid, p.rest = p.front-1, 1
		p.front = len(p.window)
		p.combine += 3
	}
}

// queue is p with places, and with aggregates that are not combined from others.
func (p *plainQueue) queue(k int) impl.Queue {
	q := impl.Queue{Items: slices.Clone(p.window), B: p.front, Combine: p.combine}
	q.A = q.B - p.rest
	q.R = q.A - p.mid
	q.L = q.R - p.mid
	q.Aggs = aggsOf(k, p.window, q.L, q.R, q.A, q.B)
	return q
}

// aggsOf are the aggregates of the document's rows, for items with places that are in order.
func aggsOf(k int, items []int, l, r, a, b int) []impl.Value {
	var aggs []impl.Value
	for i := range items {
		from, to := i, b
		if i >= b {
			from, to = b, i+1
		} else if r <= i && i < a {
			from, to = r, i+1
		} else if l <= i && i < r {
			to = r
		}
		aggs = append(aggs, direct(k, items[from:to]))
	}
	return aggs
}

// queueOf is the queue of items with places that are in order.
func queueOf(k int, items []int, l, r, a, b int) impl.Queue {
	return impl.Queue{Items: slices.Clone(items), Aggs: aggsOf(k, items, l, r, a, b), L: l, R: r, A: a, B: b}
}

// fitting are all plain queues of items whose places fit.
func fitting(items []int) []plainQueue {
	if len(items) == 0 {
		return []plainQueue{{}}
	}
	var all []plainQueue
	for front := 1; front <= len(items); front++ {
		// In front of B are one item more than behind it, two rows as long as each other, and the rest.
		free := front - (len(items) - front + 1)
		for mid := 0; 2*mid <= free; mid++ {
			all = append(all, plainQueue{window: slices.Clone(items), front: front, mid: mid, rest: free - 2*mid})
		}
	}
	return all
}

func samePlaces(q impl.Queue, l, r, a, b int) bool {
	return q.L == l && q.R == r && q.A == a && q.B == b
}

func sameQueue(a, b impl.Queue) bool {
	return slices.Equal(a.Items, b.Items) && slices.Equal(a.Aggs, b.Aggs) && samePlaces(a, b.L, b.R, b.A, b.B) && a.Combine == b.Combine
}

func cloneQueue(q impl.Queue) impl.Queue {
	q.Items, q.Aggs = slices.Clone(q.Items), slices.Clone(q.Aggs)
	return q
}

// mustQueue makes a change, and checks that it takes at most four combinations
// and leaves its argument as it was.
func mustQueue(t *testing.T, k int, q impl.Queue, op impl.Op) impl.Queue {
	t.Helper()
	before := cloneQueue(q)
	next, ok := impl.QueueStep(k, q, op)
	if !ok || !impl.QueueValid(k, next) {
		t.Fatalf("QueueStep(%d, %v, %v) = %v, %v", k, q, op, next, ok)
	}
	if cost := next.Combine - q.Combine; cost < 0 || cost > 4 || !op.Push && cost > 3 {
		t.Fatalf("QueueStep(%d, %v, %v) takes %d combinations", k, q, op, cost)
	}
	if !sameQueue(q, before) {
		t.Fatalf("QueueStep(%d, %v, %v) changes its argument to %v", k, before, op, q)
	}
	return next
}

// rejectChange checks that a change of a queue cannot be made.
func rejectChange(t *testing.T, k int, q impl.Queue, op impl.Op) {
	t.Helper()
	before := cloneQueue(q)
	next, ok := impl.QueueStep(k, q, op)
	if ok || !sameQueue(next, impl.Queue{}) {
		t.Errorf("QueueStep(%d, %v, %v) = %v, %v", k, q, op, next, ok)
	}
	if !sameQueue(q, before) {
		t.Errorf("QueueStep(%d, %v, %v) changes its argument to %v", k, before, op, q)
	}
}

// rejectQueue checks that no function accepts q as a queue of a kind.
func rejectQueue(t *testing.T, k int, q impl.Queue) {
	t.Helper()
	if impl.QueueValid(k, q) {
		t.Errorf("QueueValid(%d, %v) is true", k, q)
	}
	if v, ok := impl.QueueValue(k, q); ok || v != (impl.Value{}) {
		t.Errorf("QueueValue(%d, %v) = %v, %v", k, q, v, ok)
	}
	rejectChange(t, k, q, push(5))
	rejectChange(t, k, q, take)
}

// rejectRuns checks that no function makes ops.
func rejectRuns(t *testing.T, k int, ops []impl.Op) {
	t.Helper()
	q, numbers, ok := impl.QueueRun(k, ops)
	if ok || !sameQueue(q, impl.Queue{}) || len(numbers) != 0 {
		t.Errorf("QueueRun(%d, %v) = %v, %v, %v", k, ops, q, numbers, ok)
	}
	if costs, ok := impl.QueueCosts(k, ops); ok || len(costs) != 0 {
		t.Errorf("QueueCosts(%d, %v) = %v, %v", k, ops, costs, ok)
	}
	if costs, ok := impl.StacksCosts(k, ops); ok || len(costs) != 0 {
		t.Errorf("StacksCosts(%d, %v) = %v, %v", k, ops, costs, ok)
	}
}

// checkWhole checks that a queue is valid, and the aggregate of its window.
func checkWhole(t *testing.T, k int, q impl.Queue, window []int) {
	t.Helper()
	if !impl.QueueValid(k, q) {
		t.Fatalf("QueueValid(%d, %v) is false", k, q)
	}
	if v, ok := impl.QueueValue(k, q); !ok || v != direct(k, window) {
		t.Fatalf("QueueValue(%d, %v) = %v, %v, not that of %v", k, q, v, ok, window)
	}
}

// checkQueue checks the queue after each of the valid changes ops, all numbers and all costs.
func checkQueue(t *testing.T, k int, ops []impl.Op) {
	t.Helper()
	before := slices.Clone(ops)
	q, p, stacks := impl.Queue{}, plainQueue{}, plainStacks{}
	want, costs, stacksCosts := []int{}, []int{}, []int{}
	checkWhole(t, k, q, nil)
	for i, op := range ops {
		combine, stacksCombine := p.combine, stacks.combine
		q = mustQueue(t, k, q, op)
		p.change(op)
		stacks.change(op)
		costs = append(costs, p.combine-combine)
		stacksCosts = append(stacksCosts, stacks.combine-stacksCombine)
		if !sameQueue(q, p.queue(k)) {
			t.Fatalf("kind %d: %v have the queue %v, not %v", k, ops[:i+1], q, p.queue(k))
		}
		checkWhole(t, k, q, p.window)
		want = append(want, directNumber(k, p.window))
	}
	run, numbers, ok := impl.QueueRun(k, ops)
	if !ok || !sameQueue(run, q) || !slices.Equal(numbers, want) {
		t.Fatalf("QueueRun(%d, %v) = %v, %v, %v, not %v, %v", k, ops, run, numbers, ok, q, want)
	}
	if got, ok := impl.QueueCosts(k, ops); !ok || !slices.Equal(got, costs) || slices.Max(append(got, 0)) > 4 {
		t.Fatalf("QueueCosts(%d, %v) = %v, %v, not %v", k, ops, got, ok, costs)
	}
	if got, ok := impl.StacksCosts(k, ops); !ok || !slices.Equal(got, stacksCosts) {
		t.Fatalf("StacksCosts(%d, %v) = %v, %v, not %v", k, ops, got, ok, stacksCosts)
	}
	if !slices.Equal(ops, before) {
		t.Fatalf("%v has become %v", before, ops)
	}
}

// TestPromise4Short: all short lists of three changes, up to the first one that cannot be made.
func TestPromise4Short(t *testing.T) {
	lists := [][]impl.Op{nil}
	for next := 0; next < len(lists); next++ {
		ops := lists[next]
		for k := 1; k <= 10; k++ {
			if impl.OpsValid(ops) {
				checkQueue(t, k, ops)
			} else {
				rejectRuns(t, k, ops)
			}
		}
		if len(ops) == 7 || !impl.OpsValid(ops) {
			continue
		}
		for _, op := range []impl.Op{push(7), push(30), take} {
			lists = append(lists, append(slices.Clone(ops), op))
		}
	}
}

// TestPromise4Long: 200 changes, and one too many.
func TestPromise4Long(t *testing.T) {
	for _, ops := range longLists(20) {
		for k := 1; k <= 10; k++ {
			checkQueue(t, k, ops)
			rejectRuns(t, k, append(ops, push(0)))
		}
	}
}

// TestPromise4Slides: items go as fast as they come, with windows of each size.
func TestPromise4Slides(t *testing.T) {
	for k := 1; k <= 10; k++ {
		for size := range 61 {
			ops := pushes(size)
			for len(ops) <= 198 {
				n := len(ops) * 53 % 97
				if size < 60 && size%2 == 0 {
					ops = append(ops, push(n), take)
				} else {
					ops = append(ops, take, push(n))
				}
			}
			checkQueue(t, k, ops)
		}
	}
}

// TestPromise4Places: from each queue whose places fit, both changes, and those after them.
func TestPromise4Places(t *testing.T) {
	items := directWindow(pushes(61))
	for k := 1; k <= 10; k++ {
		for _, size := range []int{0, 1, 2, 3, 4, 5, 6, 7, 8, 9, 30, 31, 59, 60} {
			for _, p := range fitting(items[:size]) {
				q := p.queue(k)
				checkWhole(t, k, q, p.window)
				if size < 60 {
					checkFrom(t, k, p, push(48), push(3), take)
				}
				if size > 0 {
					checkFrom(t, k, p, take, push(48), push(3))
				}
				if size > 1 {
					checkFrom(t, k, p, take, take)
				}
			}
		}
	}
}

// checkFrom checks the queue after each of ops, beginning with p, up to the
// first one that cannot be made as the window is full.
func checkFrom(t *testing.T, k int, p plainQueue, ops ...impl.Op) {
	t.Helper()
	q := p.queue(k)
	for _, op := range ops {
		if op.Push && len(p.window) == 60 {
			rejectChange(t, k, q, op)
			return
		}
		q = mustQueue(t, k, q, op)
		p.change(op)
		if !sameQueue(q, p.queue(k)) {
			t.Fatalf("kind %d: the queue is %v, not %v", k, q, p.queue(k))
		}
		checkWhole(t, k, q, p.window)
	}
}

// TestPromise4Order has numbers by hand: the order of items matters in all rows.
func TestPromise4Order(t *testing.T) {
	ops := []impl.Op{push(9), push(1), push(5), take, push(7), take}
	wants := [][]int{{},
		{9, 10, 15, 6, 13, 12}, {1, 2, 3, 2, 3, 2}, {9, 1, 1, 1, 1, 5}, {9, 9, 9, 5, 7, 7}, {9, 9, 9, 1, 1, 5},
		{9, 1, 5, 5, 7, 7}, {9, 5, 5, 3, 4, 6}, {10, 21, 34, 23, 94, 95}, {0, 0, 1, 1, 2, 1}, {0, 0, 0, 1, 2, 1},
	}
	for k := 1; k <= 10; k++ {
		checkQueue(t, k, ops)
		if _, numbers, ok := impl.QueueRun(k, ops); !ok || !slices.Equal(numbers, wants[k]) {
			t.Errorf("QueueRun(%d) has %v, %v, not %v", k, numbers, ok, wants[k])
		}
	}
	// Two maps after a flip: that of 9 and 1, then that of 1.
	q, _, ok := impl.QueueRun(impl.KindMap, ops[:2])
	want := impl.Queue{Items: []int{9, 1}, Aggs: []impl.Value{value(2, 19, 0), value(2, 1, 0)}, L: 1, R: 1, A: 1, B: 2, Combine: 5}
	if !ok || !sameQueue(q, want) {
		t.Errorf("QueueRun = %v, %v, not %v", q, ok, want)
	}
	// The 5 is behind B, and the row of the 1 ends at B.
	q, _, ok = impl.QueueRun(impl.KindMap, ops[:3])
	want = impl.Queue{Items: []int{9, 1, 5}, Aggs: []impl.Value{value(2, 19, 0), value(2, 1, 0), value(6, 5, 0)}, L: 2, R: 2, A: 2, B: 2, Combine: 6}
	if !ok || !sameQueue(q, want) {
		t.Errorf("QueueRun = %v, %v, not %v", q, ok, want)
	}
	// With the 9 gone, L is B: the 1 and the 5 are combined, and the 5 has an aggregate of its own.
	q, _, ok = impl.QueueRun(impl.KindMap, ops[:4])
	want = impl.Queue{Items: []int{1, 5}, Aggs: []impl.Value{value(12, 11, 0), value(6, 5, 0)}, L: 1, R: 1, A: 1, B: 2, Combine: 9}
	if !ok || !sameQueue(q, want) {
		t.Errorf("QueueRun = %v, %v, not %v", q, ok, want)
	}
}

// TestQueueExamples has the document's example, and the queues before it and behind it.
func TestQueueExamples(t *testing.T) {
	cases := []struct {
		text string
		want impl.Queue
	}{
		{"+1", impl.Queue{Items: []int{1}, Aggs: sums(1), L: 1, R: 1, A: 1, B: 1, Combine: 1}},
		{"+1 +2", impl.Queue{Items: []int{1, 2}, Aggs: sums(3, 2), L: 1, R: 1, A: 1, B: 2, Combine: 5}},
		{"+1 +2 +3", impl.Queue{Items: []int{1, 2, 3}, Aggs: sums(3, 2, 3), L: 2, R: 2, A: 2, B: 2, Combine: 6}},
		{"+1 +2 +3 +4", impl.Queue{Items: []int{1, 2, 3, 4}, Aggs: sums(10, 2, 3, 4), L: 1, R: 2, A: 3, B: 4, Combine: 10}},
		{"+1 +2 +3 +4 +5", impl.Queue{Items: []int{1, 2, 3, 4, 5}, Aggs: sums(10, 9, 7, 4, 5), L: 2, R: 2, A: 2, B: 4, Combine: 14}},
		{"+1 +2 +3 +4 +5 -", impl.Queue{Items: []int{2, 3, 4, 5}, Aggs: sums(9, 7, 4, 5), L: 2, R: 2, A: 2, B: 3, Combine: 14}},
		{"+1 +2 +3 +4 +5 - -", impl.Queue{Items: []int{3, 4, 5}, Aggs: sums(7, 4, 5), L: 2, R: 2, A: 2, B: 2, Combine: 14}},
		{"+1 +2 +3 +4 +5 - - -", impl.Queue{Items: []int{4, 5}, Aggs: sums(9, 5), L: 1, R: 1, A: 1, B: 2, Combine: 17}},
		{"+1 +2 +3 +4 +5 - - - -", impl.Queue{Items: []int{5}, Aggs: sums(5), L: 1, R: 1, A: 1, B: 1, Combine: 17}},
		{"+1 +2 +3 +4 +5 - - - - -", impl.Queue{Combine: 17}},
	}
	for _, c := range cases {
		ops, _ := impl.ParseOps(c.text)
		checkQueue(t, impl.KindSum, ops)
		if q, _, ok := impl.QueueRun(impl.KindSum, ops); !ok || !sameQueue(q, c.want) {
			t.Errorf("QueueRun of %s = %v, %v, not %v", c.text, q, ok, c.want)
		}
	}
}

// sums are aggregates of a KindSum.
func sums(numbers ...int) []impl.Value {
	var all []impl.Value
	for _, n := range numbers {
		all = append(all, value(n, 0, 0))
	}
	return all
}

func TestCosts(t *testing.T) {
	ops, _ := impl.ParseOps("+1 +2 +3 +4 +5 +6 +7 +8 - - +9 - - - - - - - +1 -")
	queue := []int{1, 4, 1, 4, 4, 1, 1, 4, 3, 3, 4, 0, 0, 0, 0, 3, 0, 0, 1, 0}
	stacks := []int{1, 1, 1, 1, 1, 1, 1, 1, 8, 0, 1, 0, 0, 0, 0, 0, 0, 1, 1, 1}
	for k := 1; k <= 10; k++ {
		if costs, ok := impl.QueueCosts(k, ops); !ok || !slices.Equal(costs, queue) {
			t.Errorf("QueueCosts(%d) = %v, %v, not %v", k, costs, ok, queue)
		}
		if costs, ok := impl.StacksCosts(k, ops); !ok || !slices.Equal(costs, stacks) {
			t.Errorf("StacksCosts(%d) = %v, %v, not %v", k, costs, ok, stacks)
		}
		// A flip of 60 items takes as many combinations, and no change of a queue more than four.
		long := append(pushes(60), slices.Repeat([]impl.Op{take}, 60)...)
		if costs, ok := impl.StacksCosts(k, long); !ok || slices.Max(costs) != 60 || costs[60] != 60 {
			t.Errorf("StacksCosts(%d) = %v, %v", k, costs, ok)
		}
		if costs, ok := impl.QueueCosts(k, long); !ok || slices.Max(costs) != 4 || len(costs) != 120 {
			t.Errorf("QueueCosts(%d) = %v, %v", k, costs, ok)
		}
	}
}

func TestQueueStart(t *testing.T) {
	for k := 1; k <= 10; k++ {
		q, ok := impl.QueueStart(k)
		if !ok || !sameQueue(q, impl.Queue{}) {
			t.Errorf("QueueStart(%d) = %v, %v", k, q, ok)
		}
		checkWhole(t, k, q, nil)
		checkQueue(t, k, nil)
		rejectChange(t, k, q, take)
	}
}

func TestQueueKinds(t *testing.T) {
	for _, k := range notKinds {
		if q, ok := impl.QueueStart(k); ok || !sameQueue(q, impl.Queue{}) {
			t.Errorf("QueueStart(%d) = %v, %v", k, q, ok)
		}
		for _, ops := range [][]impl.Op{nil, {push(5)}, {push(5), take}, {take}, pairs(201)} {
			rejectRuns(t, k, ops)
		}
		rejectQueue(t, k, impl.Queue{})
		for of := 1; of <= 10; of++ {
			rejectQueue(t, k, queueOf(of, []int{3, 7, 1}, 2, 2, 2, 2))
		}
	}
	// The queue of one kind is not that of another one whose aggregates differ.
	rejectQueue(t, impl.KindMap, queueOf(impl.KindSum, []int{3, 7, 1}, 2, 2, 2, 2))
	rejectQueue(t, impl.KindSum, queueOf(impl.KindMean, []int{3, 7}, 1, 1, 1, 2))
	rejectQueue(t, impl.KindLeast, queueOf(impl.KindMost, []int{3, 7}, 1, 1, 1, 2))
	rejectQueue(t, impl.KindFirst, queueOf(impl.KindLast, []int{3, 7}, 1, 1, 1, 2))
}

// TestQueueLast: the last item goes, and the queue begins anew, but goes on counting.
func TestQueueLast(t *testing.T) {
	wants := [][]int{{}, {5, 0, 8}, {1, 0, 1}, {5, -1, 8}, {5, -1, 8}, {5, -1, 8}, {5, -1, 8}, {5, -1, 8}, {11, 1, 17}, {0, 0, 0}, {0, -1, 0}}
	for k := 1; k <= 10; k++ {
		ops := []impl.Op{push(5), take, push(8), push(2), take, take, push(1)}
		checkQueue(t, k, ops)
		if _, numbers, _ := impl.QueueRun(k, ops[:3]); !slices.Equal(numbers, wants[k]) {
			t.Errorf("QueueRun(%d) has %v, not %v", k, numbers, wants[k])
		}
		q, _, _ := impl.QueueRun(k, ops[:6])
		if !sameQueue(q, impl.Queue{Combine: 6}) {
			t.Errorf("QueueRun(%d) = %v", k, q)
		}
		rejectChange(t, k, q, take)
		q = mustQueue(t, k, q, push(1))
		if want := costing(queueOf(k, []int{1}, 1, 1, 1, 1), 7); !sameQueue(q, want) {
			t.Errorf("kind %d: %v, not %v", k, q, want)
		}
		checkQueue(t, k, []impl.Op{push(5), push(8), take, push(2), take, take})
		checkQueue(t, k, pairs(200))
	}
}

// TestQueueMeet: changes after which L is B, and changes after which L is R.
func TestQueueMeet(t *testing.T) {
	for k := 1; k <= 10; k++ {
		// L is B after a push of the fourth item, and after a take of the first of three.
		q := queueOf(k, []int{9, 1, 5}, 2, 2, 2, 2)
		if next, want := mustQueue(t, k, q, push(7)), queueOf(k, []int{9, 1, 5, 7}, 1, 2, 3, 4); !sameQueue(next, costing(want, 4)) {
			t.Errorf("kind %d: %v, not %v", k, next, want)
		}
		if next, want := mustQueue(t, k, q, take), queueOf(k, []int{1, 5}, 1, 1, 1, 2); !sameQueue(next, costing(want, 3)) {
			t.Errorf("kind %d: %v, not %v", k, next, want)
		}
		// L is R, but not B: the three places move without a combination.
		q = queueOf(k, []int{9, 1, 5, 7, 2}, 2, 2, 2, 4)
		if next, want := mustQueue(t, k, q, push(6)), queueOf(k, []int{9, 1, 5, 7, 2, 6}, 3, 3, 3, 4); !sameQueue(next, costing(want, 1)) {
			t.Errorf("kind %d: %v, not %v", k, next, want)
		}
		if next, want := mustQueue(t, k, q, take), queueOf(k, []int{1, 5, 7, 2}, 2, 2, 2, 3); !sameQueue(next, want) {
			t.Errorf("kind %d: %v, not %v", k, next, want)
		}
		// No two of L, R and A are the same: L and A move to each other.
		q = queueOf(k, []int{9, 1, 5, 7}, 1, 2, 3, 4)
		if next, want := mustQueue(t, k, q, push(6)), queueOf(k, []int{9, 1, 5, 7, 6}, 2, 2, 2, 4); !sameQueue(next, costing(want, 4)) {
			t.Errorf("kind %d: %v, not %v", k, next, want)
		}
		if next, want := mustQueue(t, k, q, take), queueOf(k, []int{1, 5, 7}, 1, 1, 1, 3); !sameQueue(next, costing(want, 3)) {
			t.Errorf("kind %d: %v, not %v", k, next, want)
		}
	}
}

// costing is q with a counter.
func costing(q impl.Queue, combine int) impl.Queue {
	q.Combine = combine
	return q
}

// TestQueueFull: MaxSize items, wherever the places are, and one more.
func TestQueueFull(t *testing.T) {
	items := directWindow(pushes(62))
	for k := 1; k <= 10; k++ {
		for _, p := range fitting(items[:60]) {
			q := p.queue(k)
			checkWhole(t, k, q, items[:60])
			rejectChange(t, k, q, push(5))
			q = mustQueue(t, k, q, take)
			checkWhole(t, k, q, items[1:60])
			q = mustQueue(t, k, q, push(items[60]))
			checkWhole(t, k, q, items[1:61])
			rejectChange(t, k, q, push(5))
		}
		for _, p := range fitting(items[:61]) {
			rejectQueue(t, k, p.queue(k))
		}
		rejectQueue(t, k, impl.Queue{Items: make([]int, 1000), Aggs: make([]impl.Value, 1000), L: 1, R: 1, A: 1, B: 1000})
		rejectRuns(t, k, pushes(61))
		checkQueue(t, k, append(pushes(60), slices.Repeat([]impl.Op{take, push(5)}, 70)...))
		checkQueue(t, k, append(pushes(60), slices.Repeat([]impl.Op{take}, 60)...))
	}
}

// TestQueueCounter: a counter from 0 to 1000000 is valid, and a change is made up to 900000.
func TestQueueCounter(t *testing.T) {
	items := directWindow(pushes(60))
	for k := 1; k <= 10; k++ {
		for _, size := range []int{0, 1, 2, 3, 4, 5, 59, 60} {
			q, _, _ := impl.QueueRun(k, pushes(size))
			for _, n := range []int{0, 1, 899999, 900000, 900001, 999999, 1000000, 1000001, -1, math.MinInt, math.MaxInt} {
				checkCounter(t, k, costing(q, n), items[:size])
			}
		}
	}
}

// checkCounter checks q, which has any counter, and is valid but for this.
func checkCounter(t *testing.T, k int, q impl.Queue, window []int) {
	t.Helper()
	if q.Combine < 0 || q.Combine > 1000000 {
		rejectQueue(t, k, q)
		return
	}
	checkWhole(t, k, q, window)
	if q.Combine > 900000 {
		rejectChange(t, k, q, push(5))
		rejectChange(t, k, q, take)
		return
	}
	if len(window) < 60 {
		next := mustQueue(t, k, q, push(5))
		same := mustQueue(t, k, costing(q, 0), push(5))
		if !sameQueue(next, costing(same, q.Combine+same.Combine)) {
			t.Errorf("QueueStep(%d, %v) of a push = %v", k, q, next)
		}
	}
	if len(window) > 0 {
		next := mustQueue(t, k, q, take)
		same := mustQueue(t, k, costing(q, 0), take)
		if !sameQueue(next, costing(same, q.Combine+same.Combine)) {
			t.Errorf("QueueStep(%d, %v) of a take = %v", k, q, next)
		}
	}
}

// TestQueueStepMany: steps are not limited to the number of changes in a list.
func TestQueueStepMany(t *testing.T) {
	for k := 1; k <= 10; k++ {
		q, window := impl.Queue{}, []int{}
		for i := range 1500 {
			n := i * 53 % 97
			q, window = mustQueue(t, k, q, push(n)), append(window, n)
			for len(window) > 1+i%23 {
				q, window = mustQueue(t, k, q, take), window[1:]
			}
			checkWhole(t, k, q, window)
		}
	}
}

// TestQueueStepInvalid: changes that are none, or that do not fit.
func TestQueueStepInvalid(t *testing.T) {
	for k := 1; k <= 10; k++ {
		for size := range 6 {
			for _, p := range fitting([]int{3, 7, 1, 9, 5}[:size]) {
				q := p.queue(k)
				for _, n := range notItems {
					rejectChange(t, k, q, push(n))
					rejectChange(t, k, q, impl.Op{Item: n})
				}
				for _, n := range []int{1, 5, 96} {
					rejectChange(t, k, q, impl.Op{Item: n})
				}
				mustQueue(t, k, q, push(0))
				mustQueue(t, k, q, push(96))
			}
		}
		rejectChange(t, k, impl.Queue{}, take)
		rejectChange(t, k, impl.Queue{Combine: 5}, take)
	}
}

func TestQueueRunInvalid(t *testing.T) {
	lists := [][]impl.Op{
		{take}, {take, push(1)}, {push(1), take, take, push(1)}, {push(1), {Item: 1}}, {push(1), {Item: -1}},
		pairs(201), pairs(1000), pushes(61), append(pushes(61), take, take),
	}
	for _, n := range notItems {
		lists = append(lists, []impl.Op{push(n)}, []impl.Op{push(1), push(n), take})
	}
	for k := 1; k <= 10; k++ {
		for _, ops := range lists {
			rejectRuns(t, k, ops)
		}
	}
}

// TestQueuePlaces: of all places within and around some items, exactly those that fit are accepted.
func TestQueuePlaces(t *testing.T) {
	items := []int{3, 7, 1, 9, 5}
	for size := range len(items) + 1 {
		fits := map[[4]int]bool{}
		for _, p := range fitting(items[:size]) {
			q := p.queue(impl.KindMap)
			fits[[4]int{q.L, q.R, q.A, q.B}] = true
		}
		for l := -1; l <= size+1; l++ {
			for r := -1; r <= size+1; r++ {
				for a := -1; a <= size+1; a++ {
					for b := -1; b <= size+1; b++ {
						q := impl.Queue{Items: items[:size], L: l, R: r, A: a, B: b}
						if 0 <= l && l <= r && r <= a && a <= b && b <= size {
							q.Aggs = aggsOf(impl.KindMap, items[:size], l, r, a, b)
						} else {
							q.Aggs = make([]impl.Value, size)
						}
						if fits[[4]int{l, r, a, b}] {
							checkWhole(t, impl.KindMap, q, items[:size])
						} else {
							rejectQueue(t, impl.KindMap, q)
						}
					}
				}
			}
		}
	}
}

// TestQueuePlacesFar: places far away from the items, also such as fit if their
// differences overflow, with items whose rows have the same aggregate.
func TestQueuePlacesFar(t *testing.T) {
	// For an L of 1, R - L is A - R with MaxInt as R and -3 as A.
	far := []int{math.MinInt, math.MinInt + 1, math.MinInt / 2, -3, -1, 0, 1, 2, 61, math.MaxInt / 2, math.MaxInt - 1, math.MaxInt}
	for _, k := range []int{impl.KindSum, impl.KindLeast, impl.KindRise} {
		for _, items := range [][]int{nil, {0}, {0, 0}} {
			for _, l := range far {
				for _, r := range far {
					for _, a := range far {
						for _, b := range far {
							checkFar(t, k, items, l, r, a, b)
						}
					}
				}
			}
		}
	}
}

func checkFar(t *testing.T, k int, items []int, l, r, a, b int) {
	t.Helper()
	q := impl.Queue{Items: items, Aggs: slices.Repeat([]impl.Value{direct(k, []int{0})}, len(items)), L: l, R: r, A: a, B: b}
	var fits bool
	switch len(items) {
	case 0:
		fits = samePlaces(q, 0, 0, 0, 0)
	case 1:
		fits = samePlaces(q, 1, 1, 1, 1)
	case 2:
		fits = samePlaces(q, 1, 1, 1, 2)
	}
	if impl.QueueValid(k, q) != fits {
		t.Fatalf("QueueValid(%d, %v) is %v", k, q, !fits)
	}
	if !fits {
		rejectQueue(t, k, q)
	}
}

// TestQueueAggsCount: Aggs that are too few or too many.
func TestQueueAggsCount(t *testing.T) {
	for k := 1; k <= 10; k++ {
		for size := range 8 {
			for _, p := range fitting(directWindow(pushes(size))) {
				q := p.queue(k)
				unit := direct(k, nil)
				more := q
				more.Aggs = append(slices.Clone(q.Aggs), unit)
				rejectQueue(t, k, more)
				more.Aggs = append(slices.Clone(q.Aggs), direct(k, []int{5}))
				rejectQueue(t, k, more)
				more.Aggs = slices.Repeat([]impl.Value{unit}, 1000)
				rejectQueue(t, k, more)
				if size == 0 {
					continue
				}
				fewer := q
				fewer.Aggs = q.Aggs[:size-1]
				rejectQueue(t, k, fewer)
				fewer.Aggs = nil
				rejectQueue(t, k, fewer)
				fewer = q
				fewer.Items = q.Items[:size-1]
				rejectQueue(t, k, fewer)
				fewer.Items = nil
				rejectQueue(t, k, fewer)
			}
		}
	}
}

// TestQueueAggs: each of Aggs has to be the aggregate of its row, not only of some items.
func TestQueueAggs(t *testing.T) {
	for k := 1; k <= 10; k++ {
		for _, size := range []int{1, 2, 3, 4, 5, 6, 7, 8, 9, 60} {
			items := directWindow(pushes(size))
			for i, p := range fitting(items) {
				if i%40 != 3 && size == 60 {
					continue // a few of the many will do
				}
				q := p.queue(k)
				for at, good := range q.Aggs {
					others := []impl.Value{{}, value(-1, 0, 0), value(math.MaxInt, 1, 0), value(good.X+1, good.Y, good.Z), value(good.X, good.Y, good.Z+1), value(good.X, good.Y+1, good.Z)}
					others = append(others, direct(k, nil), direct(k, items[at:]), direct(k, items[:at+1]), direct(k, items[at:at+1]))
					for _, v := range others {
						if v == good {
							continue // another row can have the same aggregate
						}
						q.Aggs[at] = v
						rejectQueue(t, k, q)
					}
					q.Aggs[at] = good
				}
			}
		}
	}
}

// TestQueueItemsInvalid: each of Items has to be an item.
func TestQueueItemsInvalid(t *testing.T) {
	for k := 1; k <= 10; k++ {
		for _, n := range notItems {
			for _, p := range fitting([]int{8, 3, 7, 1}) {
				for at := range 4 {
					q := p.queue(k)
					q.Items[at] = n
					rejectQueue(t, k, q)
					q.Aggs = aggsOf(k, q.Items, q.L, q.R, q.A, q.B)
					rejectQueue(t, k, q)
				}
			}
		}
		// The aggregates of other items.
		q := queueOf(k, []int{9, 1, 5, 7}, 1, 2, 3, 4)
		q.Items[1] = 20
		if k != impl.KindCount {
			rejectQueue(t, k, q)
		}
	}
}

// roomyQueue is q in memory of its own, with spare capacity that is not empty.
func roomyQueue(q impl.Queue) impl.Queue {
	items := slices.Repeat([]int{-7}, len(q.Items)+70)
	aggs := slices.Repeat([]impl.Value{value(-7, -7, -7)}, len(q.Aggs)+70)
	copy(items, q.Items)
	copy(aggs, q.Aggs)
	q.Items, q.Aggs = items[:len(q.Items)], aggs[:len(q.Aggs)]
	return q
}

// wholeQueue is q with its spare capacity.
func wholeQueue(q impl.Queue) impl.Queue {
	q.Items, q.Aggs = q.Items[:cap(q.Items)], q.Aggs[:cap(q.Aggs)]
	return q
}

// spoilQueue writes on all memory of q, its spare capacity as well.
func spoilQueue(q impl.Queue) {
	q = wholeQueue(q)
	spoilNumbers(q.Items)
	for i := range q.Aggs {
		q.Aggs[i] = value(-9, -9, -9)
	}
}

// spoilNumbers writes on all memory of numbers, their spare capacity as well.
func spoilNumbers(numbers []int) {
	numbers = numbers[:cap(numbers)]
	for i := range numbers {
		numbers[i] = -9
	}
}

// TestQueueStepOwn: the result of a step has memory of its own, and the
// argument keeps its memory, also what is beyond its length.
func TestQueueStepOwn(t *testing.T) {
	items := directWindow(pushes(60))
	for k := 1; k <= 10; k++ {
		for _, size := range []int{0, 1, 2, 3, 4, 5, 8, 13, 59, 60} {
			for _, p := range fitting(items[:size]) {
				if size < 60 {
					checkQueueOwn(t, k, roomyQueue(p.queue(k)), push(5))
				}
				if size > 0 {
					checkQueueOwn(t, k, roomyQueue(p.queue(k)), take)
				}
			}
		}
	}
}

func checkQueueOwn(t *testing.T, k int, q impl.Queue, op impl.Op) {
	t.Helper()
	before := cloneQueue(wholeQueue(q))
	impl.QueueValid(k, q)
	impl.QueueValue(k, q)
	first := mustQueue(t, k, q, op)
	second := mustQueue(t, k, q, op)
	want := cloneQueue(first)
	if !sameQueue(wholeQueue(q), before) {
		t.Fatalf("QueueStep(%d, %v, %v) writes on its argument", k, q, op)
	}
	spoilQueue(first)
	if !sameQueue(wholeQueue(q), before) {
		t.Fatalf("QueueStep(%d, %v, %v) shares memory with its argument", k, q, op)
	}
	if !sameQueue(second, want) {
		t.Fatalf("two results of QueueStep(%d, %v, %v) share memory", k, q, op)
	}
	spoilQueue(q)
	if !sameQueue(second, want) {
		t.Fatalf("QueueStep(%d, %v, %v) keeps memory of its argument", k, before, op)
	}
}

// TestQueueRunOwn: the queue, the numbers and the costs have memory of their own, in every call.
func TestQueueRunOwn(t *testing.T) {
	ops := append(pushes(9), take, take, push(3), push(4), take)
	for k := 1; k <= 10; k++ {
		for count := range len(ops) + 1 {
			list := append(slices.Clone(ops[:count]), make([]impl.Op, 40)...)
			before := slices.Clone(list)
			q, numbers, _ := impl.QueueRun(k, list[:count])
			queueCosts, _ := impl.QueueCosts(k, list[:count])
			stacksCosts, _ := impl.StacksCosts(k, list[:count])
			if !slices.Equal(list, before) {
				t.Fatalf("a run of %v writes on its argument", before[:count])
			}
			want := slices.Clone(numbers)
			spoilQueue(q)
			if !slices.Equal(numbers, want) {
				t.Fatalf("QueueRun(%d, %v): the queue and the numbers share memory", k, before[:count])
			}
			spoilNumbers(numbers)
			spoilNumbers(queueCosts)
			spoilNumbers(stacksCosts)
			// All results once more.
			checkQueue(t, k, list[:count])
		}
	}
}
