package tests

import (
	"fmt"
	"math"
	"slices"
	"testing"

	"loop.example/windowaggregates/impl"
)

// notEventTimes are numbers that are no time of an event.
var notEventTimes = []int{math.MinInt, -2, -1, 401, 402, 9999, 10000, math.MaxInt}

// notEnds are numbers up to which no windows can be asked for.
var notEnds = []int{math.MinInt, -2, -1, 1001, 1002, math.MaxInt}

// setups have windows that overlap, that meet, and that have gaps between them;
// they wait not at all, a little, and as long as they can.
var setups = []impl.Setup{
	{Width: 10, Hop: 5, Wait: 4}, {Width: 2, Hop: 5, Wait: 0}, {Width: 1, Hop: 1, Wait: 0}, {Width: 7, Hop: 7, Wait: 3},
	{Width: 5, Hop: 3, Wait: 200}, {Width: 3, Hop: 10, Wait: 12}, {Width: 200, Hop: 1, Wait: 5}, {Width: 1, Hop: 200, Wait: 1},
	{Width: 200, Hop: 200, Wait: 200}, {Width: 200, Hop: 30, Wait: 0}, {Width: 20, Hop: 200, Wait: 50}, {Width: 50, Hop: 20, Wait: 30},
}

// ofKind is s with a kind.
func ofKind(k int, s impl.Setup) impl.Setup {
	s.Kind = k
	return s
}

func at(time, item int) impl.Event { return impl.Event{Time: time, Item: item} }

// plainStream is a stream whose tree is a shape, with the items of each time, and
// which also has the events that did not come too late, in their order.
type plainStream struct {
	setup impl.Setup
	tree  plainTree
	came  []impl.Event
	seen  int
	done  int
	late  int
	out   []int
}

func (p *plainStream) put(e impl.Event) {
	if e.Time < p.done {
		p.late++
		return
	}
	p.came = append(p.came, e)
	if e.Time >= p.done+p.setup.Hop-p.setup.Width {
		p.tree.put(e.Time, e.Item)
	}
	p.seen = max(p.seen, e.Time)
	for p.seen-p.setup.Wait >= p.done+p.setup.Hop {
		p.closeOne()
	}
}

func (p *plainStream) closeOne() {
	p.done += p.setup.Hop
	var items []int
	for _, time := range p.tree.shape.times() {
		if p.done-p.setup.Width <= time && time < p.done {
			items = append(items, p.tree.items[time]...)
		}
	}
	p.out = append(p.out, directNumber(p.setup.Kind, items))
	_, p.tree.shape = parted(p.tree.shape, p.done+p.setup.Hop-p.setup.Width-1)
}

func (p *plainStream) flush() {
	for p.tree.shape != nil {
		p.closeOne()
	}
}

func (p *plainStream) stream() impl.Stream {
	return impl.Stream{Tree: p.tree.tree(p.setup.Kind), Seen: p.seen, Done: p.done, Late: p.late, Out: slices.Clone(p.out)}
}

// plainNumbers are the numbers of the windows up to an end, by the document's words.
func plainNumbers(s impl.Setup, events []impl.Event, end int) []int {
	var numbers []int
	for n := 1; n*s.Hop <= end; n++ {
		numbers = append(numbers, directNumber(s.Kind, itemsIn(events, n*s.Hop-s.Width, n*s.Hop-1)))
	}
	return numbers
}

func sameStream(a, b impl.Stream) bool {
	return sameTree(a.Tree, b.Tree) && a.Seen == b.Seen && a.Done == b.Done && a.Late == b.Late && slices.Equal(a.Out, b.Out)
}

func cloneStream(x impl.Stream) impl.Stream {
	x.Tree, x.Out = cloneTree(x.Tree), slices.Clone(x.Out)
	return x
}

// brief is a short text of a stream.
func brief(x impl.Stream) string {
	return fmt.Sprintf("%s %v, seen %d, done %d, late %d, out %v", look(x.Tree), x.Tree.Agg, x.Seen, x.Done, x.Late, x.Out)
}

// wantStream checks a result that has to be valid.
func wantStream(t *testing.T, s impl.Setup, got impl.Stream, ok bool, want impl.Stream) {
	t.Helper()
	if !ok || !sameStream(got, want) {
		t.Fatalf("%+v: %s, %v, not %s", s, brief(got), ok, brief(want))
	}
	if !impl.StreamValid(s, got) {
		t.Fatalf("StreamValid(%+v, %s) is false", s, brief(got))
	}
}

// rejectResult checks a result that stands for none.
func rejectResult(t *testing.T, name string, got impl.Stream, ok bool) {
	t.Helper()
	if ok || !sameStream(got, impl.Stream{}) {
		t.Fatalf("%s = %s, %v", name, brief(got), ok)
	}
}

func mustOpen(t *testing.T, s impl.Setup) impl.Stream {
	t.Helper()
	x, ok := impl.StreamStart(s)
	wantStream(t, s, x, ok, impl.Stream{Seen: -1})
	return x
}

// mustAdd adds an event, and checks that this leaves the stream as it was.
func mustAdd(t *testing.T, s impl.Setup, x impl.Stream, e impl.Event) impl.Stream {
	t.Helper()
	before := cloneStream(x)
	next, ok := impl.StreamPut(s, x, e)
	if !ok || !impl.StreamValid(s, next) {
		t.Fatalf("StreamPut(%+v, %s, %v) = %s, %v", s, brief(x), e, brief(next), ok)
	}
	if !sameStream(x, before) {
		t.Fatalf("StreamPut(%+v, %s, %v) changes its argument to %s", s, brief(before), e, brief(x))
	}
	return next
}

// mustFlush closes all windows, and checks that this leaves the stream as it was.
func mustFlush(t *testing.T, s impl.Setup, x impl.Stream) impl.Stream {
	t.Helper()
	before := cloneStream(x)
	next, ok := impl.StreamFlush(s, x)
	if !ok || !sameTree(next.Tree, impl.Tree{}) {
		t.Fatalf("StreamFlush(%+v, %s) = %s, %v", s, brief(x), brief(next), ok)
	}
	if !sameStream(x, before) {
		t.Fatalf("StreamFlush(%+v, %s) changes its argument to %s", s, brief(before), brief(x))
	}
	return next
}

// mustRun adds all events, and checks that this leaves them as they were.
func mustRun(t *testing.T, s impl.Setup, events []impl.Event) impl.Stream {
	t.Helper()
	before := slices.Clone(events)
	x, ok := impl.StreamRun(s, events)
	if !ok || !impl.StreamValid(s, x) {
		t.Fatalf("StreamRun(%+v, %v) = %s, %v", s, events, brief(x), ok)
	}
	if !slices.Equal(events, before) {
		t.Fatalf("StreamRun(%+v, %v) changes its argument to %v", s, before, events)
	}
	return x
}

// checkDirect checks the numbers of all windows up to an end.
func checkDirect(t *testing.T, s impl.Setup, events []impl.Event, end int) {
	t.Helper()
	before := slices.Clone(events)
	want := plainNumbers(s, events, end)
	if got, ok := impl.DirectNumbers(s, events, end); !ok || !slices.Equal(got, want) {
		t.Fatalf("DirectNumbers(%+v, %v, %d) = %v, %v, not %v", s, events, end, got, ok, want)
	}
	if !slices.Equal(events, before) {
		t.Fatalf("DirectNumbers(%+v, %v, %d) changes its argument to %v", s, before, end, events)
	}
}

// checkStream adds events one by one, checks each stream, and closes all windows
// in the end. The numbers are those of the events that did not come too late.
func checkStream(t *testing.T, s impl.Setup, events []impl.Event) impl.Stream {
	t.Helper()
	x, p := mustOpen(t, s), plainStream{setup: s, seen: -1}
	for _, e := range events {
		x = mustAdd(t, s, x, e)
		p.put(e)
		wantStream(t, s, x, true, p.stream())
	}
	wantStream(t, s, mustRun(t, s, events), true, p.stream())
	x = mustFlush(t, s, x)
	p.flush()
	wantStream(t, s, x, true, p.stream())
	if want := plainNumbers(s, p.came, x.Done); !slices.Equal(x.Out, want) {
		t.Fatalf("%+v: the numbers of %v, of which %d are late, are %v, not %v", s, events, x.Late, x.Out, want)
	}
	checkDirect(t, s, p.came, x.Done)
	return x
}

// checkSame checks that events, of which none may be too late, end in the same
// stream as others, and have the numbers that are made without a stream.
func checkSame(t *testing.T, s impl.Setup, events []impl.Event, want impl.Stream) {
	t.Helper()
	run := mustRun(t, s, events)
	x := mustFlush(t, s, run)
	if run.Late != 0 {
		t.Fatalf("%+v: of %v, %d are late", s, events, run.Late)
	}
	wantStream(t, s, x, true, want)
	if numbers, ok := impl.DirectNumbers(s, events, x.Done); !ok || !slices.Equal(x.Out, numbers) {
		t.Fatalf("%+v: the numbers of %v are %v, not %v, %v", s, events, x.Out, numbers, ok)
	}
}

// neverLate reports whether no event comes when its time is that of a closed window.
func neverLate(s impl.Setup, events []impl.Event) bool {
	seen := -1
	for _, e := range events {
		if seen >= s.Wait && e.Time/s.Hop < (seen-s.Wait)/s.Hop {
			return false
		}
		seen = max(seen, e.Time)
	}
	return true
}

// mixed are events in another order, in which none comes too late for s, and
// those of the same time keep their order; past says by how much more they are mixed.
func mixed(s impl.Setup, events []impl.Event, seed, past int) []impl.Event {
	comes := func(e impl.Event) int {
		return (e.Time-e.Time%s.Hop+(e.Time*37+seed*53)%(s.Wait+past+1))*1000 + (e.Time*61+seed*29)%97
	}
	list := slices.Clone(events)
	slices.SortStableFunc(list, func(a, b impl.Event) int { return comes(a) - comes(b) })
	return list
}

// eventLists are lists of different lengths, close together and far apart, with
// and without several events of a time, in the order of their times.
func eventLists() [][]impl.Event {
	lists := [][]impl.Event{
		nil,
		{at(0, 5)},
		{at(400, 5)},
		{at(0, 96), at(400, 0)},
		{at(0, 7), at(0, 3), at(0, 50), at(400, 2), at(400, 96)},
		{at(199, 8), at(200, 96), at(201, 3)},
	}
	for n, gap := range []int{1, 2, 3, 4, 5, 6} {
		var list []impl.Event
		for i := range 60 {
			list = append(list, at(min(400, i/(n%3+1)*gap+n*9), (i*53+i*i*7+n)%97))
		}
		lists = append(lists, list, list[:17])
	}
	var all []impl.Event
	for i := range 60 {
		all = append(all, at(i*400/59, (i*31+11)%97))
	}
	return append(lists, all)
}

// TestPromise8Orders: all orders of six events in which none comes too late, and
// those of the same time keep their order, have the same numbers; all other
// orders have those of the events that do not come too late.
func TestPromise8Orders(t *testing.T) {
	lists := [][]impl.Event{
		{at(1, 3), at(4, 96), at(5, 7), at(9, 7), at(10, 0), at(23, 20)},
		{at(3, 50), at(3, 7), at(8, 96), at(8, 1), at(8, 60), at(16, 3)},
	}
	for n, list := range lists {
		all := orders(list)
		for k := 1; k <= 10; k++ {
			for i, s := range setups {
				s = ofKind(k, s)
				if n == 1 && s.Width > 20 && s.Hop > 20 {
					continue // All of them are in the same window, as in the other list.
				}
				want := checkStream(t, s, list)
				for j, events := range all {
					if keepsOrder(list, events) && neverLate(s, events) {
						checkSame(t, s, events, want)
					}
					if (i+j)%20 == k {
						checkStream(t, s, events)
					}
				}
			}
		}
	}
}

// TestPromise8Long: up to 60 events in orders in which none comes too late have
// the same numbers, and in other orders those that do not come too late have them.
func TestPromise8Long(t *testing.T) {
	late, moved := 0, 0
	for k := 1; k <= 10; k++ {
		for _, s := range setups {
			s = ofKind(k, s)
			for n, list := range eventLists() {
				want := checkStream(t, s, list)
				for seed := range 3 {
					events := mixed(s, list, seed, 0)
					if !slices.Equal(events, list) {
						moved++
					}
					checkSame(t, s, events, want)
				}
				if n%3 == k%3 {
					checkStream(t, s, mixed(s, list, n, 0))
					late += checkStream(t, s, mixed(s, list, n, 40)).Late
				}
			}
		}
	}
	if late < 100 || moved < 1000 {
		t.Errorf("only %d events are late, and only %d lists are in another order", late, moved)
	}
}

// TestPromise8AllSetups: windows of many widths, hops and waits, for each kind in turn.
func TestPromise8AllSetups(t *testing.T) {
	lists := eventLists()
	n := 0
	for _, width := range []int{1, 2, 3, 7, 40, 199, 200} {
		for _, hop := range []int{1, 2, 3, 8, 39, 40, 41, 199, 200} {
			for _, wait := range []int{0, 1, 2, 7, 40, 199, 200} {
				n++
				s := impl.Setup{Kind: n%10 + 1, Width: width, Hop: hop, Wait: wait}
				list := lists[n%len(lists)]
				want := checkStream(t, s, list)
				checkSame(t, s, mixed(s, list, n, 0), want)
				checkStream(t, s, mixed(s, lists[(n+7)%len(lists)], n, 25))
			}
		}
	}
}

// TestPromise8SameTime: the order of events of the same time matters for some
// kinds, and is that in which they came, however late the others come.
func TestPromise8SameTime(t *testing.T) {
	a, b, c := at(3, 10), at(3, 20), at(8, 15)
	numbers := map[int][2]int{
		impl.KindFirst: {10, 20}, impl.KindLast: {15, 15}, impl.KindRise: {1, 1}, impl.KindPlace: {1, 0}, impl.KindMean: {15, 15}, impl.KindSum: {45, 45},
	}
	for k, want := range numbers {
		s := impl.Setup{Kind: k, Width: 10, Hop: 10, Wait: 5}
		for i, lists := range [][][]impl.Event{{{a, b, c}, {a, c, b}, {c, a, b}}, {{b, a, c}, {b, c, a}, {c, b, a}}} {
			for _, events := range lists {
				if x := checkStream(t, s, events); !slices.Equal(x.Out, []int{want[i]}) {
					t.Errorf("%+v: the numbers of %v are %v, not %d", s, events, x.Out, want[i])
				}
			}
		}
	}
}

// TestStreamExample: with windows of 10 that end 5 apart, and a wait of 4, the
// time 9 closes the first window, and no time before it does.
func TestStreamExample(t *testing.T) {
	for k := 1; k <= 10; k++ {
		s := impl.Setup{Kind: k, Width: 10, Hop: 5, Wait: 4}
		for time := range 20 {
			x := mustAdd(t, s, mustOpen(t, s), at(time, 7))
			if closed := (time - 4) / 5; len(x.Out) != max(closed, 0) || x.Done != 5*len(x.Out) || x.Seen != time {
				t.Errorf("kind %d: the time %d makes %+v", k, time, x)
			}
		}
		x := mustAdd(t, s, mustOpen(t, s), at(8, 7))
		if len(x.Out) != 0 || x.Done != 0 {
			t.Errorf("kind %d: the time 8 makes %+v", k, x)
		}
		x = mustAdd(t, s, x, at(9, 7))
		if want := directNumber(k, nil); !slices.Equal(x.Out, []int{want}) || x.Done != 5 {
			t.Errorf("kind %d: the times 8 and 9 make %+v, not %d", k, x, want)
		}
	}
}

// flushed are the streams after each event, and the one after all windows are closed.
func flushed(t *testing.T, s impl.Setup, events []impl.Event) []impl.Stream {
	t.Helper()
	x := mustOpen(t, s)
	list := []impl.Stream{}
	for _, e := range events {
		x = mustAdd(t, s, x, e)
		list = append(list, x)
	}
	checkStream(t, s, events)
	return append(list, mustFlush(t, s, x))
}

// state is a stream by hand: its times, what is seen, done and late, and the numbers.
type state struct {
	times            []int
	seen, done, late int
	out              []int
}

// checkStates checks the streams after each event, and after all windows are closed.
func checkStates(t *testing.T, s impl.Setup, events []impl.Event, want ...state) {
	t.Helper()
	list := flushed(t, s, events)
	if len(list) != len(want) {
		t.Fatalf("%d streams, and %d are wanted", len(list), len(want))
	}
	for i, x := range list {
		w := want[i]
		if !slices.Equal(impl.TreeTimes(x.Tree), w.times) || x.Seen != w.seen || x.Done != w.done || x.Late != w.late || !slices.Equal(x.Out, w.out) {
			t.Errorf("%+v: the stream %d of %v is %+v with the times %v, not %+v", s, i, events, x, impl.TreeTimes(x.Tree), w)
		}
	}
}

// TestStreamGaps: windows with gaps between them, by hand. An event in a gap is
// in no window: it is not kept, but closes windows.
func TestStreamGaps(t *testing.T) {
	s := impl.Setup{Kind: impl.KindLast, Width: 2, Hop: 5, Wait: 0}
	// The windows have the times 3 and 4, 8 and 9, 13 and 14, and so on.
	checkStates(t, s, []impl.Event{at(1, 7), at(4, 8), at(2, 9), at(3, 10), at(7, 50), at(12, 1), at(9, 2), at(13, 3)},
		state{nil, 1, 0, 0, nil},
		state{[]int{4}, 4, 0, 0, nil},
		state{[]int{4}, 4, 0, 0, nil},
		state{[]int{3, 4}, 4, 0, 0, nil},
		state{nil, 7, 5, 0, []int{8}},
		state{nil, 12, 10, 0, []int{8, -1}},
		state{nil, 12, 10, 1, []int{8, -1}},
		state{[]int{13}, 13, 10, 1, []int{8, -1}},
		state{nil, 13, 15, 1, []int{8, -1, 3}})
	// An event that no later window has is not late, whatever the gap.
	s = impl.Setup{Kind: impl.KindCount, Width: 1, Hop: 200, Wait: 0}
	checkStates(t, s, []impl.Event{at(198, 7), at(199, 7), at(0, 7), at(200, 7), at(199, 7), at(398, 7), at(399, 7)},
		state{nil, 198, 0, 0, nil},
		state{[]int{199}, 199, 0, 0, nil},
		state{[]int{199}, 199, 0, 0, nil},
		state{nil, 200, 200, 0, []int{1}},
		state{nil, 200, 200, 1, []int{1}},
		state{nil, 398, 200, 1, []int{1}},
		state{[]int{399}, 399, 200, 1, []int{1}},
		state{nil, 399, 400, 1, []int{1, 1}})
	// What waits in the tree for a window that ends later may be in a gap once this is next.
	s = impl.Setup{Kind: impl.KindSum, Width: 2, Hop: 5, Wait: 20}
	checkStates(t, s, []impl.Event{at(11, 1), at(13, 2), at(6, 4), at(2, 8), at(4, 16), at(31, 32)},
		state{[]int{11}, 11, 0, 0, nil},
		state{[]int{11, 13}, 13, 0, 0, nil},
		state{[]int{6, 11, 13}, 13, 0, 0, nil},
		state{[]int{6, 11, 13}, 13, 0, 0, nil},
		state{[]int{4, 6, 11, 13}, 13, 0, 0, nil},
		state{[]int{13, 31}, 31, 10, 0, []int{16, 0}},
		state{nil, 31, 30, 0, []int{16, 0, 2, 0, 0, 0}})
}

// TestStreamEdges: events at the end of a closed window and just before it, and
// such that no later window has, by hand.
func TestStreamEdges(t *testing.T) {
	s := impl.Setup{Kind: impl.KindSum, Width: 5, Hop: 5, Wait: 2}
	checkStates(t, s, []impl.Event{at(4, 1), at(6, 2), at(7, 4), at(5, 8), at(4, 16), at(0, 32), at(11, 64), at(12, 3), at(9, 5), at(10, 7)},
		state{[]int{4}, 4, 0, 0, nil},
		state{[]int{4, 6}, 6, 0, 0, nil},
		state{[]int{6, 7}, 7, 5, 0, []int{1}},
		state{[]int{5, 6, 7}, 7, 5, 0, []int{1}},
		state{[]int{5, 6, 7}, 7, 5, 1, []int{1}},
		state{[]int{5, 6, 7}, 7, 5, 2, []int{1}},
		state{[]int{5, 6, 7, 11}, 11, 5, 2, []int{1}},
		state{[]int{11, 12}, 12, 10, 2, []int{1, 14}},
		state{[]int{11, 12}, 12, 10, 3, []int{1, 14}},
		state{[]int{10, 11, 12}, 12, 10, 3, []int{1, 14}},
		state{nil, 12, 15, 3, []int{1, 14, 74}})
	// An event before the end of a closed window is late, also if a later one would have it.
	s = impl.Setup{Kind: impl.KindRise, Width: 10, Hop: 5, Wait: 0}
	checkStates(t, s, []impl.Event{at(3, 5), at(5, 6), at(4, 90), at(8, 7), at(6, 50), at(10, 8)},
		state{[]int{3}, 3, 0, 0, nil},
		state{[]int{3, 5}, 5, 5, 0, []int{0}},
		state{[]int{3, 5}, 5, 5, 1, []int{0}},
		state{[]int{3, 5, 8}, 8, 5, 1, []int{0}},
		state{[]int{3, 5, 6, 8}, 8, 5, 1, []int{0}},
		state{[]int{5, 6, 8, 10}, 10, 10, 1, []int{0, 2}},
		state{nil, 10, 20, 1, []int{0, 2, 2, 0}})
	// A late event never closes a window, and the last time that is not late does.
	s = impl.Setup{Kind: impl.KindCount, Width: 1, Hop: 1, Wait: 0}
	checkStates(t, s, []impl.Event{at(3, 0), at(2, 0), at(3, 0), at(4, 0)},
		state{[]int{3}, 3, 3, 0, []int{0, 0, 0}},
		state{[]int{3}, 3, 3, 1, []int{0, 0, 0}},
		state{[]int{3}, 3, 3, 1, []int{0, 0, 0}},
		state{[]int{4}, 4, 4, 1, []int{0, 0, 0, 2}},
		state{nil, 4, 5, 1, []int{0, 0, 0, 2, 1}})
}

// TestStreamAtOnce: one event closes several windows, some of them without events.
func TestStreamAtOnce(t *testing.T) {
	s := impl.Setup{Kind: impl.KindMost, Width: 10, Hop: 5, Wait: 0}
	checkStates(t, s, []impl.Event{at(3, 9), at(40, 1), at(41, 2), at(52, 7)},
		state{[]int{3}, 3, 0, 0, nil},
		state{[]int{40}, 40, 40, 0, []int{9, 9, -1, -1, -1, -1, -1, -1}},
		state{[]int{40, 41}, 41, 40, 0, []int{9, 9, -1, -1, -1, -1, -1, -1}},
		state{[]int{52}, 52, 50, 0, []int{9, 9, -1, -1, -1, -1, -1, -1, 2, 2}},
		state{nil, 52, 60, 0, []int{9, 9, -1, -1, -1, -1, -1, -1, 2, 2, 7, 7}})
	for k := 1; k <= 10; k++ {
		for _, s := range setups {
			s = ofKind(k, s)
			x := mustAdd(t, s, mustAdd(t, s, mustOpen(t, s), at(0, 9)), at(400, 5))
			if want := (400 - s.Wait) / s.Hop; len(x.Out) != want || x.Done != want*s.Hop {
				t.Errorf("%+v: the time 400 closes %d windows, not %d", s, len(x.Out), want)
			}
		}
	}
}

// TestStreamWait: a stream that does not wait, and one that waits as long as it can.
func TestStreamWait(t *testing.T) {
	s := impl.Setup{Kind: impl.KindLast, Width: 10, Hop: 10, Wait: 0}
	checkStates(t, s, []impl.Event{at(9, 1), at(10, 2), at(9, 3)},
		state{[]int{9}, 9, 0, 0, nil},
		state{[]int{10}, 10, 10, 0, []int{1}},
		state{[]int{10}, 10, 10, 1, []int{1}},
		state{nil, 10, 20, 1, []int{1, 2}})
	s.Wait = 200
	checkStates(t, s, []impl.Event{at(209, 1), at(9, 3), at(210, 2), at(9, 4), at(10, 5)},
		state{[]int{209}, 209, 0, 0, nil},
		state{[]int{9, 209}, 209, 0, 0, nil},
		state{[]int{209, 210}, 210, 10, 0, []int{3}},
		state{[]int{209, 210}, 210, 10, 1, []int{3}},
		state{[]int{10, 209, 210}, 210, 10, 1, []int{3}},
		state{nil, 210, 220, 1, append([]int{3, 5}, append(slices.Repeat([]int{-1}, 18), 1, 2)...)})
}

// TestStreamEmptyWindows: a window without events has the number -1, if the kind
// has no number for no items.
func TestStreamEmptyWindows(t *testing.T) {
	numbers := []int{0, 0, -1, -1, -1, -1, -1, 1, 0, -1}
	for k := 1; k <= 10; k++ {
		s := impl.Setup{Kind: k, Width: 5, Hop: 10, Wait: 0}
		x := mustRun(t, s, []impl.Event{at(4, 7), at(22, 7)})
		if !slices.Equal(x.Out, []int{numbers[k-1], numbers[k-1]}) {
			t.Errorf("kind %d: the numbers of no items are %v", k, x.Out)
		}
		got, ok := impl.DirectNumbers(s, nil, 30)
		if !ok || !slices.Equal(got, slices.Repeat(numbers[k-1:k], 3)) {
			t.Errorf("DirectNumbers(%d) of no events = %v, %v", k, got, ok)
		}
	}
}

// TestStreamNoEvents: no events at all, as no slice and as an empty one.
func TestStreamNoEvents(t *testing.T) {
	for k := 1; k <= 10; k++ {
		for _, s := range setups {
			s = ofKind(k, s)
			for _, events := range [][]impl.Event{nil, {}, make([]impl.Event, 0, 9)} {
				x := checkStream(t, s, events)
				wantStream(t, s, x, true, impl.Stream{Seen: -1})
				if sorted, ok := impl.SortEvents(events); !ok || len(sorted) != 0 {
					t.Errorf("SortEvents(%v) = %v, %v", events, sorted, ok)
				}
				if got, ok := impl.DirectNumbers(s, events, 0); !ok || len(got) != 0 {
					t.Errorf("DirectNumbers(%+v, %v, 0) = %v, %v", s, events, got, ok)
				}
			}
		}
	}
}

// TestStreamLimits: MaxSize events, all at one time, at the times 0 and 400, and too many.
func TestStreamLimits(t *testing.T) {
	for k := 1; k <= 10; k++ {
		for n, s := range setups {
			s = ofKind(k, s)
			for _, times := range [][]int{{0}, {400}, {0, 400}, {400, 0}, {7, 7, 0, 400}, {399, 398, 400}} {
				var events []impl.Event
				for i := range 60 {
					events = append(events, at(times[i%len(times)], (i*41+n)%97))
				}
				x := checkStream(t, s, events)
				if x.Seen != slices.Max(times) {
					t.Errorf("%+v: %v make %+v", s, events, x)
				}
				for _, many := range [][]impl.Event{append(slices.Clone(events), at(5, 5)), slices.Concat(events, events), make([]impl.Event, 100000)} {
					rejectEvents(t, s, many)
				}
			}
		}
	}
}

// rejectEvents checks that no function accepts a list of events.
func rejectEvents(t *testing.T, s impl.Setup, events []impl.Event) {
	t.Helper()
	x, ok := impl.StreamRun(s, events)
	rejectResult(t, "StreamRun", x, ok)
	for _, end := range []int{0, 50, 1000} {
		if numbers, ok := impl.DirectNumbers(s, events, end); ok || len(numbers) != 0 {
			t.Fatalf("DirectNumbers of %d events to %d = %v, %v", len(events), end, numbers, ok)
		}
	}
	if sorted, ok := impl.SortEvents(events); ok || len(sorted) != 0 {
		t.Fatalf("SortEvents of %d events = %v, %v", len(events), sorted, ok)
	}
}

// TestEventsInvalid: times and items that are none, at each place of a list.
func TestEventsInvalid(t *testing.T) {
	var bad []impl.Event
	for _, time := range notEventTimes {
		bad = append(bad, at(time, 0), at(time, 50), at(time, -1))
	}
	for _, item := range notItems {
		bad = append(bad, at(0, item), at(7, item), at(400, item))
	}
	list := []impl.Event{at(0, 0), at(400, 96), at(30, 7), at(2, 9)}
	for k := 1; k <= 10; k++ {
		for n, s := range setups {
			s = ofKind(k, s)
			x := mustRun(t, s, list)
			for _, e := range bad {
				got, ok := impl.StreamPut(s, x, e)
				rejectResult(t, "StreamPut", got, ok)
				got, ok = impl.StreamPut(s, mustOpen(t, s), e)
				rejectResult(t, "StreamPut", got, ok)
				for i := range list {
					if (i+k+n)%4 == 0 {
						events := slices.Clone(list)
						events[i] = e
						rejectEvents(t, s, events)
					}
				}
				rejectEvents(t, s, append(slices.Clone(list), e))
			}
		}
	}
}

// TestEventsValid: each time and each item of an event, with other ones.
func TestEventsValid(t *testing.T) {
	s := impl.Setup{Kind: impl.KindLast, Width: 3, Hop: 2, Wait: 10}
	for time := range 401 {
		checkStream(t, s, []impl.Event{at(20, 5), at(time, time%97), at(30, 8)})
	}
	for item := range 97 {
		checkStream(t, s, []impl.Event{at(20, 5), at(19, item)})
	}
}

// TestSetupValid: each field at its limits and past them.
func TestSetupValid(t *testing.T) {
	good := []impl.Setup{{Kind: 1, Width: 1, Hop: 1}, {Kind: 10, Width: 200, Hop: 200, Wait: 200}, {Kind: 5, Width: 7, Hop: 3, Wait: 8}}
	for k := 1; k <= 10; k++ {
		for _, s := range setups {
			good = append(good, ofKind(k, s))
		}
	}
	for _, s := range good {
		if !impl.SetupValid(s) {
			t.Errorf("SetupValid(%+v) is false", s)
		}
		mustOpen(t, s)
		var bad []impl.Setup
		for _, n := range notKinds {
			bad = append(bad, ofKind(n, s))
		}
		for _, n := range []int{math.MinInt, -200, -1, 0, 201, 202, math.MaxInt} {
			wide, far := s, s
			wide.Width, far.Hop = n, n
			bad = append(bad, wide, far)
		}
		for _, n := range []int{math.MinInt, -200, -2, -1, 201, 202, math.MaxInt} {
			slow := s
			slow.Wait = n
			bad = append(bad, slow)
		}
		for _, s := range bad {
			rejectSetup(t, s)
		}
	}
	for n := 1; n <= 200; n++ {
		for _, s := range []impl.Setup{{Kind: 1, Width: n, Hop: 201 - n, Wait: n}, {Kind: 1, Width: 7, Hop: n, Wait: 200 - n}} {
			if !impl.SetupValid(s) {
				t.Errorf("SetupValid(%+v) is false", s)
			}
		}
	}
	rejectSetup(t, impl.Setup{})
}

// rejectSetup checks that no function accepts a setup.
func rejectSetup(t *testing.T, s impl.Setup) {
	t.Helper()
	if impl.SetupValid(s) {
		t.Errorf("SetupValid(%+v) is true", s)
	}
	x, ok := impl.StreamStart(s)
	rejectResult(t, "StreamStart", x, ok)
	for _, events := range [][]impl.Event{nil, {at(3, 7)}} {
		x, ok = impl.StreamRun(s, events)
		rejectResult(t, "StreamRun", x, ok)
		for _, end := range []int{0, 5, 1000} {
			if numbers, ok := impl.DirectNumbers(s, events, end); ok || len(numbers) != 0 {
				t.Errorf("DirectNumbers(%+v, %v, %d) = %v, %v", s, events, end, numbers, ok)
			}
		}
	}
	rejectStream(t, s, impl.Stream{Seen: -1})
	rejectStream(t, s, impl.Stream{})
}

// rejectStream checks that no function accepts a stream.
func rejectStream(t *testing.T, s impl.Setup, x impl.Stream) {
	t.Helper()
	if impl.StreamValid(s, x) {
		t.Fatalf("StreamValid(%+v, %s) is true", s, brief(x))
	}
	rejectBoth(t, s, x)
}

// rejectBoth checks that no events are added to a stream, and that it is not flushed.
func rejectBoth(t *testing.T, s impl.Setup, x impl.Stream) {
	t.Helper()
	rejectPuts(t, s, x)
	got, ok := impl.StreamFlush(s, x)
	rejectResult(t, "StreamFlush", got, ok)
}

// rejectPuts checks that no events are added to a stream, also such as would be late.
func rejectPuts(t *testing.T, s impl.Setup, x impl.Stream) {
	t.Helper()
	for _, e := range []impl.Event{at(0, 0), at(3, 7), at(200, 50), at(400, 96)} {
		got, ok := impl.StreamPut(s, x, e)
		rejectResult(t, "StreamPut", got, ok)
	}
}

// madeStream is a valid stream that is not made by adding events.
func madeStream(s impl.Setup) impl.Stream {
	tree := filled(s.Kind, around(full(1, 2), 20, full(2, 50)))
	return impl.Stream{Tree: tree, Seen: 60, Done: s.Hop * (25 / s.Hop), Late: 3, Out: []int{-1, 5, 99999}}
}

// TestStreamValid: each field at its limits and past them.
func TestStreamValid(t *testing.T) {
	for k := 1; k <= 10; k++ {
		for _, s := range setups {
			s = ofKind(k, s)
			good := madeStream(s)
			accept := func(change func(x *impl.Stream)) {
				t.Helper()
				x := cloneStream(good)
				change(&x)
				if !impl.StreamValid(s, x) {
					t.Fatalf("StreamValid(%+v, %s) is false", s, brief(x))
				}
			}
			reject := func(change func(x *impl.Stream)) {
				t.Helper()
				x := cloneStream(good)
				change(&x)
				rejectStream(t, s, x)
			}
			accept(func(x *impl.Stream) {})
			accept(func(x *impl.Stream) { x.Tree, x.Seen = impl.Tree{}, -1 })
			accept(func(x *impl.Stream) { x.Out = nil })
			for _, n := range []int{52, 53, 399, 400} {
				accept(func(x *impl.Stream) { x.Seen = n })
			}
			// The greatest time of the tree is 52.
			for _, n := range []int{math.MinInt, -2, -1, 0, 50, 51, 401, 402, math.MaxInt} {
				reject(func(x *impl.Stream) { x.Seen = n })
			}
			for _, n := range []int{math.MinInt, -2, 401, math.MaxInt} {
				reject(func(x *impl.Stream) { x.Tree, x.Seen = impl.Tree{}, n })
			}
			for _, n := range []int{0, s.Hop, 1000 - 1000%s.Hop} {
				accept(func(x *impl.Stream) { x.Done = n })
			}
			for _, n := range []int{math.MinInt, -s.Hop, -1, 1000 - 1000%s.Hop + s.Hop, 1001, math.MaxInt} {
				reject(func(x *impl.Stream) { x.Done = n })
			}
			for _, n := range []int{1, s.Hop - 1, s.Hop + 1, 999} {
				if n%s.Hop != 0 {
					reject(func(x *impl.Stream) { x.Done = n })
				}
			}
			for _, n := range []int{0, 1, 90000, 90001, 99999, 100000} {
				accept(func(x *impl.Stream) { x.Late = n })
			}
			for _, n := range []int{math.MinInt, -2, -1, 100001, 100002, math.MaxInt} {
				reject(func(x *impl.Stream) { x.Late = n })
			}
			for _, n := range []int{0, 1, 500, 501, 999, 1000} {
				accept(func(x *impl.Stream) { x.Out = slices.Repeat([]int{math.MinInt}, n) })
			}
			for _, n := range []int{1001, 1002, 5000} {
				reject(func(x *impl.Stream) { x.Out = make([]int, n) })
			}
		}
	}
}

// TestStreamTreeInvalid: streams whose tree is none of the kind, or has times past what was seen.
func TestStreamTreeInvalid(t *testing.T) {
	for k := 1; k <= 10; k++ {
		for _, s := range setups {
			s = ofKind(k, s)
			good := filled(k, full(3, 4))
			for at := range nodesOf(&good) {
				for _, change := range changes(k) {
					tree := cloneTree(good)
					change(nodesOf(&tree)[at])
					rejectStream(t, s, impl.Stream{Tree: tree, Seen: 400})
				}
			}
			rejectStream(t, s, impl.Stream{Tree: filled(k, rising(0, 101)), Seen: 400})
			rejectStream(t, s, impl.Stream{Tree: filled(k, full(1, 401)), Seen: 400})
			rejectStream(t, s, impl.Stream{Tree: filled(k, full(1, 401)), Seen: 401})
			rejectStream(t, s, impl.Stream{Tree: filled(k, full(1, 9999)), Seen: 9999})
			rejectStream(t, s, impl.Stream{Tree: filled(k, full(1, 0)), Seen: -1})
			for _, shape := range []*shape{full(1, 9), full(2, 7), around(nil, 2, full(1, 9)), around(full(1, 2), 9, nil)} {
				x := impl.Stream{Tree: filled(k, shape), Seen: slices.Max(shape.times()) - 1}
				rejectStream(t, s, x)
				if x.Seen++; !impl.StreamValid(s, x) {
					t.Errorf("StreamValid(%+v, %s) is false", s, brief(x))
				}
			}
		}
	}
	for of := 1; of <= 10; of++ {
		x := impl.Stream{Tree: putAll(t, of, tellingEvents()), Seen: 9}
		for k := 1; k <= 10; k++ {
			s := ofKind(k, setups[of%len(setups)])
			if k != of {
				rejectStream(t, s, x)
			} else if !impl.StreamValid(s, x) {
				t.Errorf("StreamValid(%+v, %s) is false", s, brief(x))
			}
		}
	}
}

// endlessTrees are a tree that is far too deep, and one that is a part of itself.
func endlessTrees() []impl.Tree {
	deep := impl.Tree{}
	for i := range 100000 {
		deep = impl.Tree{Time: i, Height: i + 1, Kids: []impl.Tree{deep, {}}}
	}
	kids := []impl.Tree{{Time: 1, Height: 1}, {}}
	kids[0].Kids = kids
	return []impl.Tree{deep, {Time: 5, Height: 1, Kids: kids}}
}

// TestStreamTreeEndless: trees without an end in a stream.
func TestStreamTreeEndless(t *testing.T) {
	trees := endlessTrees()
	for _, s := range setups {
		s.Kind = impl.KindSum
		for _, tree := range trees {
			x := impl.Stream{Tree: tree, Seen: 400}
			put, ok1 := impl.StreamPut(s, x, at(5, 5))
			all, ok2 := impl.StreamFlush(s, x)
			if impl.StreamValid(s, x) || ok1 || ok2 || !sameStream(put, impl.Stream{}) || !sameStream(all, impl.Stream{}) {
				t.Errorf("%+v: a tree without an end is accepted", s)
			}
		}
	}
}

// TestStreamLate: Late may be up to 90000 before an event, whether this is late or not.
func TestStreamLate(t *testing.T) {
	for k := 1; k <= 10; k++ {
		s := impl.Setup{Kind: k, Width: 10, Hop: 5, Wait: 3}
		x := impl.Stream{Tree: filled(k, full(2, 30)), Seen: 40, Done: 35}
		for _, late := range []int{0, 89999, 90000} {
			x.Late = late
			next := mustAdd(t, s, x, at(34, 7))
			want := cloneStream(x)
			want.Late++
			wantStream(t, s, next, true, want)
			if next = mustAdd(t, s, x, at(35, 7)); next.Late != late || len(impl.TreeTimes(next.Tree)) != 4 {
				t.Errorf("%+v: an event that is not late makes %+v", s, next)
			}
		}
		for _, late := range []int{90001, 90002, 100000} {
			x.Late = late
			if !impl.StreamValid(s, x) {
				t.Errorf("StreamValid(%+v, %s) is false", s, brief(x))
			}
			rejectPuts(t, s, x)
			if got := mustFlush(t, s, x); got.Late != late {
				t.Errorf("StreamFlush(%+v, %+v) = %+v", s, x, got)
			}
		}
	}
}

// TestStreamOut: Out may have up to 500 elements before an event and a flush.
func TestStreamOut(t *testing.T) {
	for k := 1; k <= 10; k++ {
		for _, s := range setups {
			s = ofKind(k, s)
			x := impl.Stream{Tree: filled(k, full(2, 30)), Seen: 40}
			for _, count := range []int{0, 1, 499, 500} {
				x.Out = slices.Repeat([]int{12345}, count)
				for _, list := range []impl.Stream{mustAdd(t, s, x, at(400, 7)), mustFlush(t, s, x)} {
					if !slices.Equal(list.Out[:count], x.Out) || len(list.Out) != count+list.Done/s.Hop {
						t.Fatalf("%+v: %+v is made from %+v", s, list, x)
					}
				}
			}
			for _, count := range []int{501, 502, 1000} {
				x.Out = make([]int, count)
				if !impl.StreamValid(s, x) {
					t.Errorf("StreamValid(%+v) with %d numbers is false", s, count)
				}
				rejectBoth(t, s, x)
				late := x
				late.Done = s.Hop
				rejectBoth(t, s, late)
				none := impl.Stream{Seen: -1, Out: x.Out}
				rejectBoth(t, s, none)
			}
		}
	}
}

// TestStreamTreeFull: an event for which the tree has no room, or whose aggregate
// would be past a limit, unless the tree does not become larger by it.
func TestStreamTreeFull(t *testing.T) {
	for k := 1; k <= 10; k++ {
		s := impl.Setup{Kind: k, Width: 100, Hop: 150, Wait: 200}
		// The first window has the times from 50 up to 149.
		x := impl.Stream{Tree: filled(k, rising(0, 100).moved(60, 2)), Seen: 260}
		for _, time := range []int{50, 59, 61, 259, 261, 400} {
			got, ok := impl.StreamPut(s, x, at(time, 7))
			rejectResult(t, "StreamPut", got, ok)
		}
		for _, time := range []int{60, 120, 258} {
			if next := mustAdd(t, s, x, at(time, 7)); len(impl.TreeTimes(next.Tree)) != 100 {
				t.Errorf("%+v: the time %d makes %+v", s, time, next)
			}
		}
		// No window has these, so that they do not come into the tree.
		for _, time := range []int{0, 1, 49} {
			wantStream(t, s, mustAdd(t, s, x, at(time, 7)), true, x)
		}
		x.Done = 150
		want := cloneStream(x)
		want.Late = 1
		wantStream(t, s, mustAdd(t, s, x, at(149, 7)), true, want)
		wantStream(t, s, mustAdd(t, s, x, at(199, 7)), true, x)
		got, ok := impl.StreamPut(s, x, at(201, 7))
		rejectResult(t, "StreamPut", got, ok)
	}
	s := impl.Setup{Kind: impl.KindCount, Width: 10, Hop: 10, Wait: 0}
	for _, count := range []int{999999, 1000000} {
		item := value(count, 0, 0)
		x := impl.Stream{Tree: impl.Tree{Time: 5, Item: item, Agg: item, Height: 1, Kids: make([]impl.Tree, 2)}, Seen: 5}
		for _, time := range []int{3, 5, 9, 10, 400} {
			if count < 1000000 {
				if got := mustFlush(t, s, mustAdd(t, s, x, at(time, 7))); got.Out[0]+got.Out[len(got.Out)-1] < 1000000 {
					t.Errorf("%+v: the time %d makes %+v", s, time, got)
				}
				continue
			}
			got, ok := impl.StreamPut(s, x, at(time, 7))
			rejectResult(t, "StreamPut", got, ok)
		}
	}
}

// TestStreamMade: streams that are not made by adding events, with times that are
// in no later window, with windows that could have been closed already, and far
// behind all times.
func TestStreamMade(t *testing.T) {
	shapes := []*shape{nil, full(1, 0), full(1, 400), full(3, 10), leaning(6, 0, 1).moved(0, 12), rising(0, 100).moved(4, 4), bushy(5, 0, 2).moved(30, 9)}
	for n, shape := range shapes {
		for i, s := range setups {
			for j, done := range []int{0, s.Hop, 30, 200, 399, 400, 600, 1000} {
				s := ofKind((n+i+j)%10+1, s)
				p := plainStream{setup: s, tree: plainTree{shape: shape, items: itemsFor(shape)}, seen: 400, done: done - done%s.Hop, late: i, out: []int{7, -1}}
				x := p.stream()
				if !impl.StreamValid(s, x) {
					t.Fatalf("StreamValid(%+v, %s) is false", s, brief(x))
				}
				all := p
				all.flush()
				if got, want := mustFlush(t, s, x), all.stream(); !sameStream(got, want) {
					t.Fatalf("StreamFlush(%+v, %s) = %s, not %s", s, brief(x), brief(got), brief(want))
				}
				for _, time := range []int{0, 10, 29, 30, 44, 199, 200, 399, 400} {
					if time >= p.done+s.Hop-s.Width && time >= p.done && len(withTime(shape, time).times()) > 100 {
						got, ok := impl.StreamPut(s, x, at(time, 9))
						rejectResult(t, "StreamPut", got, ok)
						continue
					}
					next := p
					next.tree.items = itemsFor(shape)
					next.put(at(time, 9))
					wantStream(t, s, mustAdd(t, s, x, at(time, 9)), true, next.stream())
				}
			}
		}
	}
}

// TestStreamFlushHand: what a flush closes, by hand.
func TestStreamFlushHand(t *testing.T) {
	leaf := func(time int) impl.Tree { return treeOf(impl.KindSum, full(1, time), map[int][]int{time: {9}}) }
	cases := []struct {
		width, hop int
		x          impl.Stream
		done       int
		out        []int
	}{
		// No tree: no window is closed, whatever else there is.
		{10, 5, impl.Stream{Seen: -1}, 0, nil},
		{10, 5, impl.Stream{Seen: 400, Done: 20, Late: 9, Out: []int{3}}, 20, []int{3}},
		{10, 5, impl.Stream{Seen: 400, Tree: impl.Tree{Kids: []impl.Tree{}}}, 0, nil},
		// The last window that has the time is the last one.
		{10, 5, impl.Stream{Tree: leaf(0), Seen: 0}, 10, []int{9, 9}},
		{10, 5, impl.Stream{Tree: leaf(4), Seen: 4}, 10, []int{9, 9}},
		{10, 5, impl.Stream{Tree: leaf(5), Seen: 5}, 15, []int{0, 9, 9}},
		{10, 10, impl.Stream{Tree: leaf(9), Seen: 9}, 10, []int{9}},
		{10, 10, impl.Stream{Tree: leaf(10), Seen: 10}, 20, []int{0, 9}},
		{200, 200, impl.Stream{Tree: leaf(400), Seen: 400}, 600, []int{0, 0, 9}},
		{200, 150, impl.Stream{Tree: leaf(400), Seen: 400}, 600, []int{0, 0, 9, 9}},
		{1, 200, impl.Stream{Tree: leaf(199), Seen: 199}, 200, []int{9}},
		// A time in a gap, and one that is behind already, go with the next window.
		{2, 5, impl.Stream{Tree: leaf(2), Seen: 2}, 5, []int{0}},
		{2, 5, impl.Stream{Tree: leaf(7), Seen: 7}, 5, []int{0}},
		{2, 5, impl.Stream{Tree: leaf(8), Seen: 8}, 10, []int{0, 9}},
		{10, 5, impl.Stream{Tree: leaf(3), Seen: 3, Done: 100, Out: []int{8}}, 105, []int{8, 0}},
		{200, 200, impl.Stream{Tree: leaf(3), Seen: 3, Done: 1000}, 1200, []int{0}},
	}
	for _, c := range cases {
		s := impl.Setup{Kind: impl.KindSum, Width: c.width, Hop: c.hop, Wait: 3}
		want := impl.Stream{Seen: c.x.Seen, Done: c.done, Late: c.x.Late, Out: c.out}
		if got := mustFlush(t, s, c.x); !sameStream(got, want) {
			t.Errorf("StreamFlush(%+v, %s) = %s, not %s", s, brief(c.x), brief(got), brief(want))
		}
	}
	// As many windows as there can be.
	s := impl.Setup{Kind: impl.KindCount, Width: 200, Hop: 1, Wait: 200}
	x := mustFlush(t, s, mustRun(t, s, []impl.Event{at(400, 7)}))
	if len(x.Out) != 600 || x.Done != 600 || x.Out[399] != 0 || x.Out[400] != 1 || x.Out[599] != 1 {
		t.Errorf("StreamFlush = %+v", x)
	}
	// A stream goes on after a flush.
	wantStream(t, s, mustFlush(t, s, impl.Stream{Seen: 400, Done: 600}), true, impl.Stream{Seen: 400, Done: 600})
	s = impl.Setup{Kind: impl.KindCount, Width: 10, Hop: 5, Wait: 4}
	x = mustFlush(t, s, mustRun(t, s, []impl.Event{at(7, 1)}))
	wantStream(t, s, mustAdd(t, s, x, at(14, 1)), true, impl.Stream{Seen: 7, Done: 15, Late: 1, Out: []int{0, 1, 1}})
	x = mustFlush(t, s, mustAdd(t, s, x, at(15, 1)))
	wantStream(t, s, x, true, impl.Stream{Seen: 15, Done: 25, Out: []int{0, 1, 1, 1, 1}})
}

// TestDirectHand has numbers by hand: of windows that overlap, meet, and have gaps.
func TestDirectHand(t *testing.T) {
	events := []impl.Event{at(14, 5), at(3, 1), at(9, 4), at(8, 2), at(3, 3), at(5, 30), at(0, 50), at(400, 96)}
	cases := []struct {
		kind, width, hop, end int
		want                  []int
	}{
		{impl.KindSum, 10, 5, 20, []int{54, 90, 41, 5}},
		{impl.KindSum, 5, 5, 20, []int{54, 36, 5, 0}},
		{impl.KindSum, 2, 5, 20, []int{4, 6, 5, 0}},
		{impl.KindLast, 2, 5, 20, []int{3, 4, 5, -1}},
		{impl.KindFirst, 2, 5, 20, []int{1, 2, 5, -1}},
		{impl.KindMean, 10, 5, 20, []int{18, 15, 10, 5}},
		{impl.KindRise, 10, 5, 15, []int{1, 3, 2}},
		{impl.KindPlace, 10, 5, 25, []int{0, 0, 0, 0, -1}},
		// An end between two windows is that of the one before it.
		{impl.KindSum, 10, 5, 4, nil},
		{impl.KindSum, 10, 5, 0, nil},
		{impl.KindSum, 10, 5, 5, []int{54}},
		{impl.KindSum, 10, 5, 9, []int{54}},
		{impl.KindSum, 10, 5, 10, []int{54, 90}},
		{impl.KindSum, 1, 200, 199, nil},
		{impl.KindSum, 1, 1, 4, []int{50, 0, 0, 4}},
		// The time 400 is not before the end 400.
		{impl.KindLeast, 200, 200, 400, []int{1, -1}},
		{impl.KindLeast, 200, 200, 1000, []int{1, -1, 96, -1, -1}},
		{impl.KindCount, 200, 100, 1000, []int{7, 7, 0, 0, 1, 1, 0, 0, 0, 0}},
	}
	for _, c := range cases {
		s := impl.Setup{Kind: c.kind, Width: c.width, Hop: c.hop, Wait: 7}
		checkDirect(t, s, events, c.end)
		if got, ok := impl.DirectNumbers(s, events, c.end); !ok || !slices.Equal(got, c.want) {
			t.Errorf("DirectNumbers(%+v, %v, %d) = %v, %v, not %v", s, events, c.end, got, ok, c.want)
		}
	}
}

// TestDirectNumbers: many lists, also such as are not in order, up to all sorts of
// ends; how long a stream waits does not matter.
func TestDirectNumbers(t *testing.T) {
	for k := 1; k <= 10; k++ {
		for i, s := range setups {
			s = ofKind(k, s)
			for j, list := range eventLists() {
				for n, end := range []int{0, 1, 2, 5, 30, 199, 200, 399, 400, 401, 600, 999, 1000} {
					if (i+j+n)%4 != k%4 && end < 1000 {
						continue
					}
					checkDirect(t, s, mixed(s, list, n, 300), end)
					other := s
					other.Wait = 200 - s.Wait
					a, _ := impl.DirectNumbers(s, list, end)
					b, _ := impl.DirectNumbers(other, list, end)
					if !slices.Equal(a, b) {
						t.Fatalf("DirectNumbers(%+v, %v, %d) = %v, and %v with another wait", s, list, end, a, b)
					}
				}
			}
			for _, end := range notEnds {
				for _, events := range [][]impl.Event{nil, {at(3, 7)}} {
					if numbers, ok := impl.DirectNumbers(s, events, end); ok || len(numbers) != 0 {
						t.Fatalf("DirectNumbers(%+v, %v, %d) = %v, %v", s, events, end, numbers, ok)
					}
				}
			}
		}
	}
}

// checkSorted checks SortEvents by what it promises: each event stays, and comes
// behind those that have a lesser time, or the same one and came before it.
func checkSorted(t *testing.T, events []impl.Event) {
	t.Helper()
	before := slices.Clone(events)
	sorted, ok := impl.SortEvents(events)
	if !ok || len(sorted) != len(events) {
		t.Fatalf("SortEvents(%v) = %v, %v", events, sorted, ok)
	}
	for i, e := range events {
		place := 0
		for j, other := range events {
			if other.Time < e.Time || other.Time == e.Time && j < i {
				place++
			}
		}
		if sorted[place] != e {
			t.Fatalf("SortEvents(%v) = %v, with %v at %d", events, sorted, sorted[place], place)
		}
	}
	if !slices.Equal(events, before) {
		t.Fatalf("SortEvents(%v) changes its argument to %v", before, events)
	}
}

// TestSortEvents: all orders of six events, and long lists with many and with few times.
func TestSortEvents(t *testing.T) {
	sorted, ok := impl.SortEvents([]impl.Event{at(5, 1), at(3, 2), at(5, 3), at(3, 4), at(0, 9)})
	if want := []impl.Event{at(0, 9), at(3, 2), at(3, 4), at(5, 1), at(5, 3)}; !ok || !slices.Equal(sorted, want) {
		t.Errorf("SortEvents = %v, %v, not %v", sorted, ok, want)
	}
	for _, events := range orders([]impl.Event{at(5, 1), at(3, 2), at(5, 3), at(3, 4), at(5, 0), at(400, 9)}) {
		checkSorted(t, events)
	}
	for _, list := range eventLists() {
		checkSorted(t, list)
		for seed := range 5 {
			checkSorted(t, mixed(setups[seed], list, seed, 400))
		}
		slices.Reverse(list)
		checkSorted(t, list)
	}
	for _, times := range []int{1, 2, 3, 7, 60} {
		for _, count := range []int{1, 2, 12, 13, 20, 21, 59, 60} {
			var list []impl.Event
			for i := range count {
				list = append(list, at((i*37+i*i)%times, i))
			}
			checkSorted(t, list)
		}
	}
}

// roomyEvents are events in memory of their own, with spare capacity that is not empty.
func roomyEvents(events []impl.Event) []impl.Event {
	list := slices.Repeat([]impl.Event{at(-7, -7)}, len(events)+70)
	copy(list, events)
	return list[:len(events)]
}

// spoilEvents writes on all memory of events, their spare capacity as well.
func spoilEvents(events []impl.Event) {
	events = events[:cap(events)]
	for i := range events {
		events[i] = at(-9, -9)
	}
}

// TestEventsOwn: results for events have memory of their own in every call, and
// events keep theirs, also what is beyond their length.
func TestEventsOwn(t *testing.T) {
	for i, list := range eventLists() {
		for j, s := range setups {
			s = ofKind((i+j)%10+1, s)
			events := roomyEvents(mixed(s, list, i, 20))
			before := slices.Clone(events[:cap(events)])
			sorted, _ := impl.SortEvents(events)
			again, _ := impl.SortEvents(events)
			numbers, _ := impl.DirectNumbers(s, events, 700)
			twice, _ := impl.DirectNumbers(s, events, 700)
			x := mustRun(t, s, events)
			y := mustRun(t, s, events)
			wantSorted, wantNumbers, want := slices.Clone(sorted), slices.Clone(numbers), cloneStream(x)
			spoilEvents(sorted)
			spoilNumbers(numbers)
			spoilStream(x)
			if !slices.Equal(events[:cap(events)], before) {
				t.Fatalf("%+v: a function writes on %v", s, list)
			}
			spoilEvents(events)
			if !slices.Equal(again, wantSorted) || !slices.Equal(twice, wantNumbers) || !sameStream(y, want) {
				t.Fatalf("%+v: results for %v share memory", s, list)
			}
		}
	}
}

// spoilStream writes on all memory of a stream, its spare capacity as well.
func spoilStream(x impl.Stream) {
	spoilNumbers(x.Out)
	spoilTree(x.Tree)
}

func spoilTree(tree impl.Tree) {
	kids := tree.Kids[:cap(tree.Kids)]
	for i := range kids {
		spoilTree(kids[i])
		kids[i] = impl.Tree{Time: -9}
	}
}

// roomyStream is a stream in memory of its own, with spare capacity that is not empty.
func roomyStream(x impl.Stream) impl.Stream {
	x.Tree, x.Out = roomyTree(x.Tree), roomyItems(x.Out)
	return x
}

// wholeStream is a copy of a stream with its spare capacity.
func wholeStream(x impl.Stream) impl.Stream {
	x.Tree, x.Out = wholeTree(x.Tree), slices.Clone(x.Out[:cap(x.Out)])
	return x
}

// TestStreamsOwn: each result of StreamPut and StreamFlush has memory of its own,
// and the stream before it keeps its memory, also what is beyond its length.
func TestStreamsOwn(t *testing.T) {
	for i, list := range eventLists() {
		for j, s := range setups {
			s = ofKind((i+j)%10+1, s)
			list = list[:min(len(list), 20)]
			made := []impl.Stream{madeStream(s), {Seen: -1}, {Tree: impl.Tree{Kids: []impl.Tree{}}, Seen: 9, Out: []int{}}, mustRun(t, s, list)}
			for _, plain := range made {
				for _, time := range []int{0, 24, 55, 100, 399, 400} {
					checkStreamOwn(t, s, plain, func(x impl.Stream) impl.Stream { return mustAdd(t, s, x, at(time, 7)) })
				}
				checkStreamOwn(t, s, plain, func(x impl.Stream) impl.Stream { return mustFlush(t, s, x) })
			}
		}
	}
}

func checkStreamOwn(t *testing.T, s impl.Setup, plain impl.Stream, next func(x impl.Stream) impl.Stream) {
	t.Helper()
	x := roomyStream(plain)
	before := wholeStream(x)
	first, second := next(x), next(x)
	want := cloneStream(first)
	checkApart(t, "a stream", x.Tree, first.Tree, second.Tree)
	if !sameStream(wholeStream(x), before) {
		t.Fatalf("%+v: a function writes on %+v", s, plain)
	}
	spoilStream(first)
	if !sameStream(wholeStream(x), before) {
		t.Fatalf("%+v: a result for %+v shares memory with it", s, plain)
	}
	spoilStream(x)
	if !sameStream(second, want) {
		t.Fatalf("%+v: the results for %+v share memory", s, plain)
	}
}
