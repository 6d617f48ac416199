package tests

import (
	"maps"
	"math"
	"slices"
	"strconv"
	"sync"
	"testing"

	"loop.example/windowaggregates/impl"
)

// notTimes are numbers that are no time of a tree.
var notTimes = []int{math.MinInt, math.MinInt + 1, -2, -1, 10000, 10001, math.MaxInt - 1, math.MaxInt}

// shape is a tree without items and aggregates; nil is that of no tree.
type shape struct {
	time int
	kids [2]*shape
}

func around(first *shape, time int, second *shape) *shape {
	return &shape{time: time, kids: [2]*shape{first, second}}
}

func (s *shape) height() int {
	if s == nil {
		return 0
	}
	return 1 + max(s.kids[0].height(), s.kids[1].height())
}

func (s *shape) times() []int {
	if s == nil {
		return nil
	}
	return slices.Concat(s.kids[0].times(), []int{s.time}, s.kids[1].times())
}

// mirrored is s with its sides the other way round.
func (s *shape) mirrored() *shape {
	if s == nil {
		return nil
	}
	return around(s.kids[1].mirrored(), s.time, s.kids[0].mirrored())
}

// moved is s with times that are greater by some number, and some times as far apart.
func (s *shape) moved(by, times int) *shape {
	if s == nil {
		return nil
	}
	return around(s.kids[0].moved(by, times), s.time*times+by, s.kids[1].moved(by, times))
}

// turned is s with the second of its kids at the top.
func turned(s *shape) *shape {
	up := s.kids[1]
	return around(around(s.kids[0], s.time, up.kids[0]), up.time, up.kids[1])
}

// settled is s, whose second kid may be too high, put together by one turn or by two.
func settled(s *shape) *shape {
	first, second := s.kids[0], s.kids[1]
	if second.height() <= first.height()+1 {
		return s
	}
	if second.kids[0].height() > second.kids[1].height() {
		second = turned(second.mirrored()).mirrored()
	}
	return turned(around(first, s.time, second))
}

// joined is the shape of two trees that are joined. It goes down one side only,
// the other way round if the second one is higher.
func joined(a *shape, time int, b *shape) *shape {
	if b.height() > a.height() {
		return joined(b.mirrored(), time, a.mirrored()).mirrored()
	}
	var way []*shape
	for a.height() > b.height()+1 {
		way = append(way, a)
		a = a.kids[1]
	}
	whole := around(a, time, b)
	for _, s := range slices.Backward(way) {
		whole = settled(around(s.kids[0], s.time, whole))
	}
	return whole
}

// parted are the shapes of the times up to at and behind it, from the last node up.
func parted(s *shape, at int) (*shape, *shape) {
	var way []*shape
	for s != nil {
		way = append(way, s)
		if s.time <= at {
			s = s.kids[1]
		} else {
			s = s.kids[0]
		}
	}
	var before, behind *shape
	for _, s := range slices.Backward(way) {
		if s.time <= at {
			before = joined(s.kids[0], s.time, before)
		} else {
			behind = joined(behind, s.time, s.kids[1])
		}
	}
	return before, behind
}

// withTime is the shape after an item was put at a time.
func withTime(s *shape, time int) *shape {
	before, _ := parted(s, time-1)
	_, behind := parted(s, time-1)
	_, behind = parted(behind, time)
	return joined(before, time, behind)
}

// chained is the shape of all times of a in front of all times of b.
func chained(a, b *shape) *shape {
	if a == nil {
		return b
	}
	var way []*shape
	for a.kids[1] != nil {
		way = append(way, a)
		a = a.kids[1]
	}
	rest := a.kids[0]
	for _, s := range slices.Backward(way) {
		rest = joined(s.kids[0], s.time, rest)
	}
	return joined(rest, a.time, b)
}

// united is the shape of the union of two trees.
func united(a, b *shape) *shape {
	if a == nil {
		return b
	}
	if b == nil {
		return a
	}
	before, rest := parted(b, a.time-1)
	_, behind := parted(rest, a.time)
	return joined(united(a.kids[0], before), a.time, united(a.kids[1], behind))
}

// plainTree is a shape, and the items of each time, as they came.
type plainTree struct {
	shape *shape
	items map[int][]int
}

func (p *plainTree) put(time, item int) {
	if p.items == nil {
		p.items = map[int][]int{}
	}
	p.items[time] = append(p.items[time], item)
	p.shape = withTime(p.shape, time)
}

// union is p with the items of q behind those of p.
func (p *plainTree) union(q *plainTree) *plainTree {
	both := &plainTree{shape: united(p.shape, q.shape), items: map[int][]int{}}
	for time, items := range p.items {
		both.items[time] = slices.Clone(items)
	}
	for time, items := range q.items {
		both.items[time] = append(both.items[time], items...)
	}
	return both
}

// tree is p with aggregates that are not combined from others.
func (p *plainTree) tree(k int) impl.Tree {
	return treeOf(k, p.shape, p.items)
}

func treeOf(k int, s *shape, items map[int][]int) impl.Tree {
	if s == nil {
		return impl.Tree{}
	}
	var all []int
	for _, time := range s.times() {
		all = append(all, items[time]...)
	}
	kids := []impl.Tree{treeOf(k, s.kids[0], items), treeOf(k, s.kids[1], items)}
	return impl.Tree{Time: s.time, Item: direct(k, items[s.time]), Agg: direct(k, all), Height: s.height(), Kids: kids}
}

// itemsFor are some items for each time of s, one for most of them.
func itemsFor(s *shape) map[int][]int {
	items := map[int][]int{}
	for i, time := range s.times() {
		items[time] = []int{(i*37 + time*5 + 11) % 97}
		if i%4 == 3 {
			items[time] = append(items[time], i%97, 50)
		}
	}
	return items
}

// filled is a tree of a shape with some items.
func filled(k int, s *shape) impl.Tree {
	return treeOf(k, s, itemsFor(s))
}

// rising is the shape of count times, from from on, that were put in order.
func rising(from, count int) *shape {
	var s *shape
	for i := range count {
		s = withTime(s, from+i)
	}
	return s
}

// leaning is a shape of a height with as few times as there can be, from from on.
func leaning(height, from int, side int) *shape {
	if height <= 0 {
		return nil
	}
	if side == 1 {
		return reversed(leaning(height, from, 0))
	}
	first := leaning(height-1, from, 0)
	from += len(first.times())
	return around(first, from, leaning(height-2, from+1, 0))
}

// reversed is the mirror image of s, with the same times in order.
func reversed(s *shape) *shape {
	m, times := s.mirrored(), s.times()
	var fill func(s *shape)
	fill = func(s *shape) {
		if s != nil {
			fill(s.kids[0])
			s.time, times = times[0], times[1:]
			fill(s.kids[1])
		}
	}
	fill(m)
	return m
}

// full is the shape with all nodes that a height has room for, from from on.
func full(height, from int) *shape {
	if height == 0 {
		return nil
	}
	half := 1<<(height-1) - 1
	return around(full(height-1, from), from+half, full(height-1, from+half+1))
}

// bushy is a shape of a height in which the kids differ here and there, as seed says.
func bushy(height, from, seed int) *shape {
	if height <= 0 {
		return nil
	}
	down := [][2]int{{1, 1}, {1, 2}, {2, 1}}[(seed+seed/3)%3]
	first := bushy(height-down[0], from, seed*5+1)
	from += len(first.times())
	return around(first, from, bushy(height-down[1], from+1, seed*7+2))
}

// balanced are all shapes of up to count times from 0 on, in which heights of kids differ by at most 1.
func balanced(count int) [][]*shape {
	all := [][]*shape{{nil}}
	for size := 1; size <= count; size++ {
		var list []*shape
		for first := range size {
			for _, a := range all[first] {
				for _, b := range all[size-1-first] {
					if h := a.height() - b.height(); -1 <= h && h <= 1 {
						list = append(list, around(a, first, b.moved(first+1, 1)))
					}
				}
			}
		}
		all = append(all, list)
	}
	return all
}

func sameTree(a, b impl.Tree) bool {
	return a.Time == b.Time && a.Item == b.Item && a.Agg == b.Agg && a.Height == b.Height && slices.EqualFunc(a.Kids, b.Kids, sameTree)
}

func cloneTree(t impl.Tree) impl.Tree {
	t.Kids = slices.Clone(t.Kids)
	for i := range t.Kids {
		t.Kids[i] = cloneTree(t.Kids[i])
	}
	return t
}

// look is a short text of a tree: its times, and what is on both sides of each.
func look(t impl.Tree) string {
	if len(t.Kids) != 2 {
		return "-"
	}
	return "(" + look(t.Kids[0]) + strconv.Itoa(t.Time) + look(t.Kids[1]) + ")"
}

// wantTree checks that a result is valid, and a tree.
func wantTree(t *testing.T, k int, got impl.Tree, ok bool, want impl.Tree) {
	t.Helper()
	if !ok || !sameTree(got, want) {
		t.Fatalf("kind %d: %s, %v, %v, not %s, %v", k, look(got), got, ok, look(want), want)
	}
	if !impl.TreeValid(k, got) {
		t.Fatalf("TreeValid(%d, %v) is false", k, got)
	}
}

// mustPut puts an item, and checks that this leaves its argument as it was.
func mustPut(t *testing.T, k int, tree impl.Tree, time, item int) impl.Tree {
	t.Helper()
	before := cloneTree(tree)
	next, ok := impl.PutItem(k, tree, time, item)
	if !ok || !impl.TreeValid(k, next) {
		t.Fatalf("PutItem(%d, %s, %d, %d) = %v, %v", k, look(tree), time, item, next, ok)
	}
	if !sameTree(tree, before) {
		t.Fatalf("PutItem(%d, %v, %d, %d) changes its argument to %v", k, before, time, item, tree)
	}
	return next
}

// putAll puts all events into no tree, in their order.
func putAll(t *testing.T, k int, events []impl.Event) impl.Tree {
	t.Helper()
	tree, ok := impl.Tree{}, true
	for _, e := range events {
		if tree, ok = impl.PutItem(k, tree, e.Time, e.Item); !ok {
			t.Fatalf("PutItem(%d) of %v in %v returns false", k, e, events)
		}
	}
	return tree
}

// itemsIn are the items of the events from from up to to, in the order of their
// times, and for equal times as they came.
func itemsIn(events []impl.Event, from, to int) []int {
	sorted := slices.Clone(events)
	slices.SortStableFunc(sorted, func(a, b impl.Event) int { return a.Time - b.Time })
	var items []int
	for _, e := range sorted {
		if from <= e.Time && e.Time <= to {
			items = append(items, e.Item)
		}
	}
	return items
}

func timesOf(events []impl.Event) []int {
	var times []int
	for _, e := range events {
		times = append(times, e.Time)
	}
	slices.Sort(times)
	return slices.Compact(times)
}

// edges are numbers at which ranges of the times begin or end: at, before and
// behind count of them, and far away.
func edges(times []int, count int) []int {
	all := []int{math.MinInt, -1, 0, 9999, 10000, math.MaxInt}
	for i, time := range times {
		if i*count/len(times) != (i+1)*count/len(times) || len(times) < count {
			all = append(all, time-1, time, time+1)
		}
	}
	slices.Sort(all)
	return slices.Compact(all)
}

// checkTree checks all that can be asked of a tree of events.
func checkTree(t *testing.T, k int, tree impl.Tree, events []impl.Event) {
	t.Helper()
	before, times := cloneTree(tree), timesOf(events)
	events = slices.Clone(events)
	slices.SortStableFunc(events, func(a, b impl.Event) int { return a.Time - b.Time })
	if !impl.TreeValid(k, tree) {
		t.Fatalf("TreeValid(%d, %v) is false", k, tree)
	}
	if got := impl.TreeTimes(tree); !slices.Equal(got, times) {
		t.Fatalf("TreeTimes(%s) = %v, not %v", look(tree), got, times)
	}
	if len(events) > 0 && tree.Agg != direct(k, itemsIn(events, 0, 9999)) || len(events) == 0 && !sameTree(tree, impl.Tree{}) {
		t.Fatalf("kind %d: the tree of %v has %v", k, events, tree.Agg)
	}
	places := edges(times, 7)
	for _, time := range append(places, times...) {
		v, ok := impl.TreeItem(k, tree, time)
		want, there := impl.Value{}, slices.Contains(times, time)
		if there {
			want = direct(k, itemsIn(events, time, time))
		}
		if ok != there || v != want {
			t.Fatalf("TreeItem(%d, %s, %d) = %v, %v, not %v, %v", k, look(tree), time, v, ok, want, there)
		}
	}
	for _, from := range places {
		for _, to := range places {
			want := direct(k, itemsIn(events, from, to))
			if v, ok := impl.RangeValue(k, tree, from, to); !ok || v != want {
				t.Fatalf("RangeValue(%d, %s, %d, %d) = %v, %v, not %v", k, look(tree), from, to, v, ok, want)
			}
		}
	}
	if !sameTree(tree, before) {
		t.Fatalf("kind %d: %v has become %v", k, before, tree)
	}
}

// checkPuts puts events one by one, and checks each tree, and all of the last one.
func checkPuts(t *testing.T, k int, events []impl.Event) {
	t.Helper()
	tree, plain := impl.Tree{}, plainTree{}
	for _, e := range events {
		tree = mustPut(t, k, tree, e.Time, e.Item)
		plain.put(e.Time, e.Item)
		wantTree(t, k, tree, true, plain.tree(k))
	}
	checkTree(t, k, tree, events)
}

// orders are all orders of a list.
func orders(events []impl.Event) [][]impl.Event {
	if len(events) == 0 {
		return [][]impl.Event{nil}
	}
	var all [][]impl.Event
	for i, e := range events {
		for _, rest := range orders(slices.Delete(slices.Clone(events), i, i+1)) {
			all = append(all, append([]impl.Event{e}, rest...))
		}
	}
	return all
}

// keepsOrder reports whether the events of each time are in the same order in both lists.
func keepsOrder(a, b []impl.Event) bool {
	for _, time := range timesOf(a) {
		if !slices.Equal(itemsIn(a, time, time), itemsIn(b, time, time)) {
			return false
		}
	}
	return true
}

// timeOrders are lists of 100 times in different orders.
func timeOrders() [][]int {
	up := make([]int, 100)
	for i := range up {
		up[i] = i * 101
	}
	down := slices.Clone(up)
	slices.Reverse(down)
	all := [][]int{up, down}
	for _, step := range []int{3, 7, 37, 61, 99} {
		list := make([]int, 100)
		for i := range list {
			list[i] = up[(i*step+step)%100]
		}
		all = append(all, list)
	}
	inwards := make([]int, 100)
	for i := range inwards {
		inwards[i] = up[i/2]
		if i%2 == 1 {
			inwards[i] = up[99-i/2]
		}
	}
	outwards := slices.Clone(inwards)
	slices.Reverse(outwards)
	return append(all, inwards, outwards)
}

// eventsAt are events at times, in the same order.
func eventsAt(times []int) []impl.Event {
	var events []impl.Event
	for i, time := range times {
		events = append(events, impl.Event{Time: time, Item: (i*53 + i*i*7 + 5) % 97})
	}
	return events
}

// TestPromise7Orders: six items at different times, in all orders, have the same
// aggregates, and so have six of which some have the same time.
func TestPromise7Orders(t *testing.T) {
	lists := [][]impl.Event{
		{{Time: 1, Item: 3}, {Time: 2, Item: 96}, {Time: 4, Item: 7}, {Time: 5, Item: 7}, {Time: 9, Item: 0}, {Time: 12, Item: 20}},
		{{Time: 5, Item: 8}, {Time: 2, Item: 50}, {Time: 5, Item: 96}, {Time: 9, Item: 3}, {Time: 5, Item: 1}, {Time: 2, Item: 7}},
	}
	for k := 1; k <= 10; k++ {
		for _, list := range lists {
			want := direct(k, itemsIn(list, 0, 9999))
			for _, events := range orders(list) {
				checkPuts(t, k, events)
				if tree := putAll(t, k, events); keepsOrder(list, events) && tree.Agg != want {
					t.Fatalf("kind %d: %v have %v, not %v", k, events, tree.Agg, want)
				}
			}
		}
	}
}

// TestPromise7Long: 100 times in many orders, and three items at each of 40 times.
func TestPromise7Long(t *testing.T) {
	for k := 1; k <= 10; k++ {
		for _, times := range timeOrders() {
			checkPuts(t, k, eventsAt(times))
			for i := range times {
				times[i] %= 40
			}
			checkPuts(t, k, eventsAt(slices.Concat(times, times[:20])))
		}
	}
}

// TestPromise7Parts: trees of items of which some came before the others, in
// whichever trees, have the aggregates of all when they are united, and when a
// united tree is split and joined again.
func TestPromise7Parts(t *testing.T) {
	for k := 1; k <= 10; k++ {
		for n, times := range timeOrders() {
			for _, modulus := range []int{10000, 60, 7} {
				for i := range times {
					times[i] %= modulus
				}
				events := eventsAt(times)
				for _, cut := range []int{1 + 13*n%99, 50, 99} {
					a, b := putAll(t, k, events[:cut]), putAll(t, k, events[cut:])
					whole, ok := impl.UnionTrees(k, a, b)
					if !ok {
						t.Fatalf("UnionTrees(%d, %s, %s) returns false", k, look(a), look(b))
					}
					before, behind, ok1 := impl.SplitTree(k, whole, times[cut%100])
					again, ok2 := impl.JoinTrees(k, before, behind)
					if !ok1 || !ok2 || again.Agg != whole.Agg || !slices.Equal(impl.TreeTimes(again), impl.TreeTimes(whole)) {
						t.Fatalf("kind %d: %s, split at %d and joined, is %s", k, look(whole), times[cut%100], look(again))
					}
					if cut == 50 {
						checkTree(t, k, whole, events)
						checkTree(t, k, again, events)
					}
				}
			}
		}
	}
}

// TestTreeExample has the document's example, and trees of a few times by hand.
func TestTreeExample(t *testing.T) {
	cases := []struct {
		times []int
		want  string
	}{
		{[]int{1, 2, 3}, "((-1-)2(-3-))"},
		{[]int{1, 2}, "((-1-)2-)"},
		{[]int{2, 1}, "(-1(-2-))"},
		{[]int{3, 2, 1}, "((-1-)2(-3-))"},
		{[]int{1, 2, 3, 4}, "((-1-)2((-3-)4-))"},
		{[]int{1, 2, 3, 4, 5}, "((-1-)2((-3-)4(-5-)))"},
		{[]int{1, 2, 3, 4, 5, 6}, "(((-1-)2(-3-))4((-5-)6-))"},
		{[]int{1, 2, 3, 4, 5, 6, 7}, "(((-1-)2(-3-))4((-5-)6(-7-)))"},
		{[]int{3, 2, 4}, "((-2-)3(-4-))"},
		{[]int{2, 3, 1}, "((-1-)2(-3-))"},
		{[]int{5, 2, 9, 5}, "((-2-)5(-9-))"},
		// A time that is there already comes between the parts before and behind it.
		{[]int{1, 2, 2}, "((-1-)2-)"},
		{[]int{1, 2, 1}, "(-1(-2-))"},
	}
	for k := 1; k <= 10; k++ {
		for _, c := range cases {
			tree := putAll(t, k, eventsAt(c.times))
			if look(tree) != c.want {
				t.Errorf("kind %d: %v have the tree %s, not %s", k, c.times, look(tree), c.want)
			}
		}
	}
	tree := putAll(t, impl.KindSum, []impl.Event{{Time: 1, Item: 3}, {Time: 2, Item: 7}, {Time: 1, Item: 90}})
	leaf := impl.Tree{Time: 2, Item: value(7, 0, 0), Agg: value(7, 0, 0), Height: 1, Kids: make([]impl.Tree, 2)}
	wantTree(t, impl.KindSum, tree, true, impl.Tree{Time: 1, Item: value(93, 0, 0), Agg: value(3, 0, 0), Height: 2, Kids: []impl.Tree{{}, leaf}})
}

// TestTreeHand has splits, joins and unions by hand.
func TestTreeHand(t *testing.T) {
	k := impl.KindRise
	seven := filled(k, full(3, 1))
	joins := []struct {
		a, b *shape
		want string
	}{
		{full(3, 1), full(1, 9), "(((-1-)2(-3-))4(((-5-)6-)7(-9-)))"},
		{full(1, 1), full(3, 2), "(((-1(-2-))3(-4-))5((-6-)7(-8-)))"},
		{around(nil, 2, full(1, 3)), full(1, 4), "((-2-)3(-4-))"},
		{full(2, 1), full(2, 4), "(((-1-)2-)3((-4-)5(-6-)))"},
		// No tree as the second one: the last time goes, and comes back.
		{around(nil, 2, full(1, 3)), nil, "((-2-)3-)"},
		{full(2, 1), nil, "((-1-)2(-3-))"},
		{nil, around(nil, 2, full(1, 3)), "(-2(-3-))"},
		{nil, nil, "-"},
	}
	for _, c := range joins {
		tree, ok := impl.JoinTrees(k, filled(k, c.a), filled(k, c.b))
		if !ok || look(tree) != c.want {
			t.Errorf("JoinTrees(%v, %v) = %s, %v, not %s", c.a.times(), c.b.times(), look(tree), ok, c.want)
		}
	}
	splits := []struct {
		at             int
		before, behind string
	}{
		{0, "-", "(((-1-)2(-3-))4((-5-)6(-7-)))"},
		{1, "(-1-)", "((-2(-3-))4((-5-)6(-7-)))"},
		{2, "((-1-)2-)", "((-3-)4((-5-)6(-7-)))"},
		{3, "((-1-)2(-3-))", "((-4(-5-))6(-7-))"},
		{4, "((-1-)2((-3-)4-))", "((-5-)6(-7-))"},
		{7, "(((-1-)2(-3-))4((-5-)6(-7-)))", "-"},
	}
	for _, c := range splits {
		before, behind, ok := impl.SplitTree(k, seven, c.at)
		if !ok || look(before) != c.before || look(behind) != c.behind {
			t.Errorf("SplitTree at %d = %s, %s, %v, not %s, %s", c.at, look(before), look(behind), ok, c.before, c.behind)
		}
	}
	union, ok := impl.UnionTrees(k, filled(k, around(full(1, 1), 3, full(1, 5))), filled(k, full(2, 2)))
	if !ok || look(union) != "((-1(-2-))3((-4-)5-))" {
		t.Errorf("UnionTrees = %s, %v", look(union), ok)
	}
}

// TestTreeItemsHand has aggregates by hand: items of the same time are in the
// order in which they came, those of the second tree behind those of the first.
func TestTreeItemsHand(t *testing.T) {
	a := putAll(t, impl.KindRise, []impl.Event{{Time: 5, Item: 10}, {Time: 2, Item: 3}, {Time: 5, Item: 7}, {Time: 9, Item: 20}})
	b := putAll(t, impl.KindRise, []impl.Event{{Time: 5, Item: 8}, {Time: 4, Item: 1}})
	if v, ok := impl.TreeItem(impl.KindRise, a, 5); !ok || v != value(10, 7, 1) || a.Agg != value(3, 20, 3) {
		t.Errorf("TreeItem = %v, %v, and the aggregate is %v", v, ok, a.Agg)
	}
	union, _ := impl.UnionTrees(impl.KindRise, a, b)
	if v, ok := impl.TreeItem(impl.KindRise, union, 5); !ok || v != value(10, 8, 2) || union.Agg != value(3, 20, 4) {
		t.Errorf("TreeItem = %v, %v, and the aggregate is %v", v, ok, union.Agg)
	}
	union, _ = impl.UnionTrees(impl.KindRise, b, a)
	if v, ok := impl.TreeItem(impl.KindRise, union, 5); !ok || v != value(8, 7, 2) || union.Agg != value(3, 20, 4) {
		t.Errorf("TreeItem = %v, %v, and the aggregate is %v", v, ok, union.Agg)
	}
	ranges := []struct {
		from, to int
		want     impl.Value
	}{
		{0, 9999, value(3, 20, 3)}, {2, 2, value(3, 3, 1)}, {2, 5, value(3, 7, 2)}, {3, 8, value(10, 7, 1)},
		{5, 9, value(10, 20, 2)}, {9, 9, value(20, 20, 1)}, {6, 8, value(0, 0, 0)}, {10, 9999, value(0, 0, 0)},
		{0, 1, value(0, 0, 0)}, {5, 4, value(0, 0, 0)}, {9, 2, value(0, 0, 0)}, {9999, 0, value(0, 0, 0)},
		{math.MinInt, math.MaxInt, value(3, 20, 3)}, {math.MaxInt, math.MinInt, value(0, 0, 0)},
		{math.MinInt, 4, value(3, 3, 1)}, {6, math.MaxInt, value(20, 20, 1)},
	}
	for _, r := range ranges {
		if v, ok := impl.RangeValue(impl.KindRise, a, r.from, r.to); !ok || v != r.want {
			t.Errorf("RangeValue from %d to %d = %v, %v, not %v", r.from, r.to, v, ok, r.want)
		}
	}
}

// TestNoTree: no tree of each kind, as any argument.
func TestNoTree(t *testing.T) {
	for k := 1; k <= 10; k++ {
		unit := direct(k, nil)
		none, tree := impl.Tree{Kids: []impl.Tree{}}, filled(k, leaning(4, 3, 1))
		checkTree(t, k, none, nil)
		checkTree(t, k, impl.Tree{}, nil)
		if v, ok := impl.RangeValue(k, none, 0, 9999); !ok || v != unit {
			t.Errorf("RangeValue(%d) of no tree = %v, %v", k, v, ok)
		}
		wantTree(t, k, mustPut(t, k, none, 5, 7), true, treeOf(k, full(1, 5), map[int][]int{5: {7}}))
		before, behind, ok := impl.SplitTree(k, none, 5)
		wantTree(t, k, before, ok, impl.Tree{})
		wantTree(t, k, behind, ok, impl.Tree{})
		union, ok := impl.UnionTrees(k, none, tree)
		wantTree(t, k, union, ok, tree)
		union, ok = impl.UnionTrees(k, tree, none)
		wantTree(t, k, union, ok, tree)
		union, ok = impl.UnionTrees(k, none, none)
		wantTree(t, k, union, ok, impl.Tree{})
		join, ok := impl.JoinTrees(k, none, tree)
		wantTree(t, k, join, ok, tree)
		join, ok = impl.JoinTrees(k, tree, none)
		wantTree(t, k, join, ok, filled(k, chained(leaning(4, 3, 1), nil)))
		join, ok = impl.JoinTrees(k, none, none)
		wantTree(t, k, join, ok, impl.Tree{})
	}
}

// checkJoin joins trees of two shapes, of which the times of the first one are less.
func checkJoin(t *testing.T, k int, a, b *shape) {
	t.Helper()
	items := itemsFor(a)
	maps.Copy(items, itemsFor(b))
	x, y := filled(k, a), filled(k, b)
	before, behind := cloneTree(x), cloneTree(y)
	join, ok := impl.JoinTrees(k, x, y)
	if len(items) > 100 {
		if ok || !sameTree(join, impl.Tree{}) {
			t.Fatalf("JoinTrees(%d) of %d times = %v, %v", k, len(items), join, ok)
		}
	} else {
		wantTree(t, k, join, ok, treeOf(k, chained(a, b), items))
	}
	if a != nil && b != nil {
		if join, ok := impl.JoinTrees(k, y, x); ok || !sameTree(join, impl.Tree{}) {
			t.Fatalf("JoinTrees(%d, %s, %s) = %v, %v", k, look(y), look(x), join, ok)
		}
	}
	if !sameTree(x, before) || !sameTree(y, behind) {
		t.Fatalf("JoinTrees(%d, %v, %v) changes its arguments", k, before, behind)
	}
}

// TestJoinShapes: each two of all balanced trees of up to 7 times.
func TestJoinShapes(t *testing.T) {
	all := slices.Concat(balanced(7)...)
	for i, a := range all {
		for j, b := range all {
			checkJoin(t, 1+(i+j)%10, a, b.moved(len(a.times()), 1))
			checkJoin(t, 1+(i*3+j)%10, a, b.moved(9990, 1))
		}
	}
}

// TestJoinHeights: trees with very different heights, on both sides, and trees
// with together up to 100 times and more.
func TestJoinHeights(t *testing.T) {
	shapes := []*shape{nil}
	for height := 1; height <= 6; height++ {
		shapes = append(shapes, full(height, 0), rising(0, 1<<(height-1)))
		for seed := range 4 {
			shapes = append(shapes, bushy(height, 0, seed))
		}
	}
	for height := 1; height <= 9; height++ {
		shapes = append(shapes, leaning(height, 0, 0), leaning(height, 0, 1))
	}
	for _, count := range []int{3, 12, 40, 50, 51, 98, 99, 100} {
		shapes = append(shapes, rising(0, count))
	}
	for i, a := range shapes {
		for j, b := range shapes {
			checkJoin(t, 1+(i*7+j)%10, a, b.moved(1000, 3))
		}
	}
	for k := 1; k <= 10; k++ {
		checkJoin(t, k, full(6, 0), full(1, 70))
		checkJoin(t, k, full(1, 0), full(6, 1))
		checkJoin(t, k, leaning(9, 0, 0), leaning(4, 9000, 1))
		checkJoin(t, k, leaning(4, 0, 1), leaning(9, 500, 1))
	}
}

// TestJoinOrder: all times of the first tree have to be less than all of the second one.
func TestJoinOrder(t *testing.T) {
	for k := 1; k <= 10; k++ {
		for _, a := range []*shape{full(1, 5), full(2, 3), leaning(4, 4, 0), rising(0, 6)} {
			last := slices.Max(a.times())
			for by := -20; by <= 20; by++ {
				b := full(2, last+by)
				if last+by < 0 {
					continue
				}
				if by > 0 {
					checkJoin(t, k, a, b)
					continue
				}
				if join, ok := impl.JoinTrees(k, filled(k, a), filled(k, b)); ok || !sameTree(join, impl.Tree{}) {
					t.Errorf("JoinTrees(%d) of %v and %v = %v, %v", k, a.times(), b.times(), join, ok)
				}
			}
			// One time between those of the other tree, and the same tree twice.
			for _, pair := range [][2]*shape{{a, a}, {a, full(1, last-1)}, {around(nil, 0, full(1, last)), a}, {full(1, last), a.moved(0, 1)}} {
				if join, ok := impl.JoinTrees(k, filled(k, pair[0]), filled(k, pair[1])); ok || !sameTree(join, impl.Tree{}) {
					t.Errorf("JoinTrees(%d) of %v and %v = %v, %v", k, pair[0].times(), pair[1].times(), join, ok)
				}
			}
		}
	}
}

// checkSplit splits a tree of a shape at a time, and joins the parts again.
func checkSplit(t *testing.T, k int, s *shape, at int) {
	t.Helper()
	items := itemsFor(s)
	tree := treeOf(k, s, items)
	old := cloneTree(tree)
	first, second := parted(s, at)
	before, behind, ok := impl.SplitTree(k, tree, at)
	wantTree(t, k, before, ok, treeOf(k, first, items))
	wantTree(t, k, behind, ok, treeOf(k, second, items))
	join, ok := impl.JoinTrees(k, before, behind)
	wantTree(t, k, join, ok, treeOf(k, chained(first, second), items))
	if join.Agg != tree.Agg || !sameTree(tree, old) {
		t.Fatalf("SplitTree(%d, %v, %d) changes the tree to %v, and the parts are %v together", k, old, at, tree, join)
	}
}

// TestSplitShapes: all balanced trees of up to 9 times, and large ones, in front
// of all times, at, between and behind them.
func TestSplitShapes(t *testing.T) {
	shapes := slices.Concat(balanced(9)...)
	for seed := range 6 {
		shapes = append(shapes, bushy(6, 0, seed))
	}
	shapes = append(shapes, leaning(9, 0, 0), leaning(9, 0, 1), rising(0, 100), full(6, 0))
	for i, s := range shapes {
		// The times are 10, 12, 14 and so on.
		s = s.moved(10, 2)
		for at := 8; at <= 2*len(s.times())+11; at++ {
			checkSplit(t, 1+(i+at)%10, s, at)
		}
		for n, at := range []int{math.MinInt, math.MinInt + 1, -1, 0, 9999, 10000, math.MaxInt - 1, math.MaxInt} {
			checkSplit(t, 1+(i+n)%10, s, at)
		}
	}
}

// TestPutShapes: a time that is there already, or is not, in each place of all
// balanced trees of up to 9 times.
func TestPutShapes(t *testing.T) {
	for i, s := range slices.Concat(balanced(9)...) {
		s = s.moved(10, 2)
		for time := 8; time <= 2*len(s.times())+11; time++ {
			k := 1 + (i+time)%10
			plain := plainTree{shape: s, items: itemsFor(s)}
			tree := plain.tree(k)
			plain.put(time, 33)
			wantTree(t, k, mustPut(t, k, tree, time, 33), true, plain.tree(k))
		}
	}
}

// checkUnion unites trees of two shapes, whose times may be the same.
func checkUnion(t *testing.T, k int, a, b *shape) {
	t.Helper()
	p, q := plainTree{shape: a, items: itemsFor(a)}, plainTree{shape: b, items: map[int][]int{}}
	for i, time := range b.times() {
		q.items[time] = []int{(i*29 + 3) % 97, i % 97}
	}
	both := p.union(&q)
	x, y := p.tree(k), q.tree(k)
	before, behind := cloneTree(x), cloneTree(y)
	got, ok := impl.UnionTrees(k, x, y)
	if len(both.items) > 100 {
		if ok || !sameTree(got, impl.Tree{}) {
			t.Fatalf("UnionTrees(%d) with %d times = %v, %v", k, len(both.items), got, ok)
		}
	} else {
		wantTree(t, k, got, ok, both.tree(k))
	}
	if !sameTree(x, before) || !sameTree(y, behind) {
		t.Fatalf("UnionTrees(%d, %v, %v) changes its arguments", k, before, behind)
	}
}

// TestUnionShapes: each two of all balanced trees of up to 6 times, apart, next
// to each other, with some and with all times in common, and in between.
func TestUnionShapes(t *testing.T) {
	all := slices.Concat(balanced(6)...)
	for i, a := range all {
		for j, b := range all {
			for n, by := range []int{0, 1, 5, 10, 13, 17, 40} {
				checkUnion(t, 1+(i+j+n)%10, a.moved(10, 2), b.moved(by, 2))
				checkUnion(t, 1+(i+3*j+n)%10, a.moved(10, 1), b.moved(by, 3))
			}
		}
	}
}

// TestUnionLarge: trees with together up to 100 times and more, in any places.
func TestUnionLarge(t *testing.T) {
	shapes := []*shape{nil, full(1, 30), full(6, 0), rising(0, 50), rising(3, 51), rising(0, 99), rising(0, 100), leaning(9, 7, 0), leaning(9, 0, 1), rising(0, 50).moved(1, 2), rising(0, 50).moved(0, 2), full(4, 0).moved(2, 7)}
	for seed := range 5 {
		shapes = append(shapes, bushy(6, seed, seed), bushy(5, 0, seed).moved(seed, 3))
	}
	for i, a := range shapes {
		for j, b := range shapes {
			checkUnion(t, 1+(i+j)%10, a, b)
			checkUnion(t, 1+(i+j*3)%10, a, b.moved(5000, 1))
			checkUnion(t, 1+(i*3+j)%10, a.moved(5000, 2), b)
		}
	}
	for k := 1; k <= 10; k++ {
		checkUnion(t, k, rising(0, 100), rising(0, 100))
		checkUnion(t, k, rising(0, 50).moved(1, 2), rising(0, 50).moved(0, 2))
		checkUnion(t, k, rising(0, 50).moved(1, 2), rising(0, 51).moved(0, 2))
	}
}

// TestUnionSame: the goroutines of a union never matter, also if there are several unions at a time.
func TestUnionSame(t *testing.T) {
	k := impl.KindMap
	a, b := filled(k, rising(0, 70)), filled(k, bushy(6, 20, 3))
	want := (&plainTree{shape: rising(0, 70), items: itemsFor(rising(0, 70))}).union(&plainTree{shape: bushy(6, 20, 3), items: itemsFor(bushy(6, 20, 3))}).tree(k)
	var work sync.WaitGroup
	results := make([]impl.Tree, 200)
	for i := range results {
		work.Go(func() { results[i], _ = impl.UnionTrees(k, a, b) })
	}
	work.Wait()
	for _, got := range results {
		wantTree(t, k, got, true, want)
	}
}

// TestTreeMaxNodes: trees with 100 times, and with one more.
func TestTreeMaxNodes(t *testing.T) {
	if impl.MaxTime != 9999 || impl.MaxNodes != 100 {
		t.Errorf("MaxTime is %d and MaxNodes %d", impl.MaxTime, impl.MaxNodes)
	}
	for k := 1; k <= 10; k++ {
		s := rising(0, 100).moved(1, 2)
		tree := filled(k, s)
		if !impl.TreeValid(k, tree) || len(impl.TreeTimes(tree)) != 100 {
			t.Fatalf("TreeValid(%d) of 100 times is false", k)
		}
		for time := 0; time <= 201; time += 3 {
			if time%2 == 1 && time <= 199 {
				plain := plainTree{shape: s, items: itemsFor(s)}
				plain.put(time, 8)
				wantTree(t, k, mustPut(t, k, tree, time, 8), true, plain.tree(k))
				continue
			}
			if got, ok := impl.PutItem(k, tree, time, 8); ok || !sameTree(got, impl.Tree{}) {
				t.Errorf("PutItem(%d) of the time %d, beside 100 others = %v, %v", k, time, got, ok)
			}
		}
		join, ok := impl.JoinTrees(k, tree, impl.Tree{})
		if !ok || len(impl.TreeTimes(join)) != 100 {
			t.Errorf("JoinTrees(%d) of 100 times and no tree = %v, %v", k, join, ok)
		}
		for _, count := range []int{101, 102, 127, 300} {
			rejectTree(t, k, filled(k, rising(0, count)))
		}
		rejectTree(t, k, filled(k, full(7, 0)))
	}
}

// TestTreeHeights: of balanced trees, those with a height of 9 can have few
// enough nodes, and those with a height of 10 have 143 of them; a height of 12 is
// that of no valid tree.
func TestTreeHeights(t *testing.T) {
	for k := 1; k <= 10; k++ {
		for height := 1; height <= 13; height++ {
			for side := range 2 {
				s := leaning(height, 0, side)
				tree := filled(k, s)
				if tree.Height != height || impl.TreeValid(k, tree) != (len(s.times()) <= 100) {
					t.Errorf("TreeValid(%d) of a tree with the height %d and %d times is %v", k, tree.Height, len(s.times()), impl.TreeValid(k, tree))
				}
				if height > 9 {
					rejectTree(t, k, tree)
				}
			}
		}
		// Not more nodes than there can be, but not balanced.
		for _, height := range []int{3, 11, 12, 13, 50, 100} {
			rejectTree(t, k, filled(k, chain(height, 0)))
			rejectTree(t, k, filled(k, chain(height, 1)))
		}
		leaf := filled(k, full(1, 5))
		for _, height := range []int{math.MinInt, -12, -1, 0, 2, 12, 13, math.MaxInt} {
			bad := leaf
			bad.Height = height
			rejectTree(t, k, bad)
		}
	}
}

// chain is a shape in which each node has one kid, on the same side.
func chain(height int, side int) *shape {
	var s *shape
	for i := range height {
		if side == 0 {
			s = around(s, i, nil)
		} else {
			s = around(nil, height-i, s)
		}
	}
	return s
}

// TestTreeTimesLimits: the times 0 and MaxTime, and those beyond them.
func TestTreeTimesLimits(t *testing.T) {
	for k := 1; k <= 10; k++ {
		events := []impl.Event{{Time: 9999, Item: 8}, {Time: 0, Item: 50}, {Time: 9999, Item: 3}, {Time: 0, Item: 1}}
		tree := putAll(t, k, events)
		checkTree(t, k, tree, events)
		checkSplit(t, k, around(full(1, 0), 1, full(1, 9999)), 0)
		checkSplit(t, k, around(full(1, 0), 1, full(1, 9999)), 9999)
		checkUnion(t, k, around(nil, 0, full(1, 9999)), around(full(1, 0), 9999, nil))
		checkJoin(t, k, full(1, 0), full(1, 9999))
		for _, time := range notTimes {
			for _, tree := range []impl.Tree{tree, {}} {
				if got, ok := impl.PutItem(k, tree, time, 5); ok || !sameTree(got, impl.Tree{}) {
					t.Errorf("PutItem(%d) at the time %d = %v, %v", k, time, got, ok)
				}
				if v, ok := impl.TreeItem(k, tree, time); ok || v != (impl.Value{}) {
					t.Errorf("TreeItem(%d) at the time %d = %v, %v", k, time, v, ok)
				}
			}
			rejectTree(t, k, filled(k, full(1, time)))
			rejectTree(t, k, filled(k, around(full(1, min(time, 5)), max(time, 5), nil)))
			rejectTree(t, k, filled(k, around(nil, min(time, 5), full(1, max(time, 5)))))
		}
	}
}

func TestPutInvalid(t *testing.T) {
	for k := 1; k <= 10; k++ {
		for _, tree := range []impl.Tree{{}, filled(k, full(2, 4)), filled(k, rising(0, 30))} {
			for _, item := range notItems {
				for _, time := range []int{0, 5, 9999} {
					if got, ok := impl.PutItem(k, tree, time, item); ok || !sameTree(got, impl.Tree{}) {
						t.Errorf("PutItem(%d) of the item %d = %v, %v", k, item, got, ok)
					}
				}
			}
			for item := range 97 {
				mustPut(t, k, tree, 5, item)
			}
		}
	}
}

// rejectTree checks that no function accepts a tree as one of a kind, as either argument.
func rejectTree(t *testing.T, k int, tree impl.Tree) {
	t.Helper()
	if impl.TreeValid(k, tree) {
		t.Fatalf("TreeValid(%d) of %s is true", k, look(tree))
	}
	if v, ok := impl.TreeItem(k, tree, tree.Time); ok || v != (impl.Value{}) {
		t.Fatalf("TreeItem(%d, %s) = %v, %v", k, look(tree), v, ok)
	}
	if v, ok := impl.RangeValue(k, tree, 0, 9999); ok || v != (impl.Value{}) {
		t.Fatalf("RangeValue(%d, %s) = %v, %v", k, look(tree), v, ok)
	}
	if v, ok := impl.RangeValue(k, tree, 5, 4); ok || v != (impl.Value{}) {
		t.Fatalf("RangeValue(%d, %s) = %v, %v", k, look(tree), v, ok)
	}
	check := func(name string, got impl.Tree, ok bool) {
		t.Helper()
		if ok || !sameTree(got, impl.Tree{}) {
			t.Fatalf("%s of the kind %d accepts %s: %v, %v", name, k, look(tree), got, ok)
		}
	}
	got, ok := impl.PutItem(k, tree, 5, 7)
	check("PutItem", got, ok)
	before, behind, ok := impl.SplitTree(k, tree, 5)
	check("SplitTree", before, ok)
	check("SplitTree", behind, ok)
	for _, other := range []impl.Tree{{}, tree, filledOrNone(k, full(1, 0)), filledOrNone(k, full(1, 9999))} {
		for _, pair := range [][2]impl.Tree{{tree, other}, {other, tree}} {
			got, ok = impl.JoinTrees(k, pair[0], pair[1])
			check("JoinTrees", got, ok)
			got, ok = impl.UnionTrees(k, pair[0], pair[1])
			check("UnionTrees", got, ok)
		}
	}
}

// filledOrNone is a tree of a shape, or no tree if k is no kind.
func filledOrNone(k int, s *shape) impl.Tree {
	if slices.Contains(notKinds, k) {
		return impl.Tree{}
	}
	return filled(k, s)
}

// tellingEvents are events at the times 2, 5 and 9 whose items tell apart the
// kinds of which some aggregates look the same.
func tellingEvents() []impl.Event {
	events := []impl.Event{{Time: 2, Item: 50}, {Time: 9, Item: 60}}
	for range 50 {
		events = append(events, impl.Event{Time: 5, Item: 10}, impl.Event{Time: 5, Item: 90})
	}
	return events
}

// TestTreeKinds: numbers that are no kind, and trees of other kinds.
func TestTreeKinds(t *testing.T) {
	for _, k := range notKinds {
		rejectTree(t, k, impl.Tree{})
		for of := 1; of <= 10; of++ {
			rejectTree(t, k, filled(of, full(2, 4)))
		}
	}
	events := tellingEvents()
	for of := 1; of <= 10; of++ {
		tree := putAll(t, of, events)
		checkTree(t, of, tree, events)
		for k := 1; k <= 10; k++ {
			if k != of {
				rejectTree(t, k, tree)
			}
		}
	}
}

// nodesOf are pointers to all nodes of a tree, and to the trees that are none.
func nodesOf(tree *impl.Tree) []*impl.Tree {
	all := []*impl.Tree{tree}
	for i := range tree.Kids {
		all = append(all, nodesOf(&tree.Kids[i])...)
	}
	return all
}

// changes are what can be done to a node, so that its tree is no longer the same.
func changes(k int) []func(n *impl.Tree) {
	all := []func(n *impl.Tree){
		func(n *impl.Tree) { n.Time = -1 }, func(n *impl.Tree) { n.Time = 10000 }, func(n *impl.Tree) { n.Time = math.MinInt }, func(n *impl.Tree) { n.Time = math.MaxInt },
		func(n *impl.Tree) { n.Height++ }, func(n *impl.Tree) { n.Height-- }, func(n *impl.Tree) { n.Height = 12 }, func(n *impl.Tree) { n.Height = math.MaxInt }, func(n *impl.Tree) { n.Height = math.MinInt },
		func(n *impl.Tree) { n.Agg.X++ }, func(n *impl.Tree) { n.Agg.X-- }, func(n *impl.Tree) { n.Agg.X += 97 }, func(n *impl.Tree) { n.Agg.Y++ }, func(n *impl.Tree) { n.Agg.Y-- }, func(n *impl.Tree) { n.Agg.Z++ }, func(n *impl.Tree) { n.Agg.Z-- }, func(n *impl.Tree) { n.Agg = value(math.MaxInt, math.MaxInt, math.MaxInt) },
		func(n *impl.Tree) { n.Item = value(97, 0, 0) }, func(n *impl.Tree) { n.Item = value(-1, 0, 0) }, func(n *impl.Tree) { n.Item.Z -= 2 }, func(n *impl.Tree) { n.Item.Y = -1 }, func(n *impl.Tree) { n.Item = value(math.MaxInt, math.MaxInt, math.MaxInt) },
		func(n *impl.Tree) { n.Kids = append(slices.Clone(n.Kids), impl.Tree{}) },
		func(n *impl.Tree) { n.Kids = slices.Repeat([]impl.Tree{{}}, 3) },
		func(n *impl.Tree) { n.Kids = []impl.Tree{{}} },
		func(n *impl.Tree) { n.Kids = append(slices.Clone(n.Kids), filled(k, full(1, 9000))) },
	}
	return all
}

// TestTreeInvalid has trees that are valid but for one thing, at each node and
// in the place of each tree that is none.
func TestTreeInvalid(t *testing.T) {
	for k := 1; k <= 10; k++ {
		for _, s := range []*shape{full(3, 4), leaning(4, 4, 0), rising(4, 12)} {
			good := filled(k, s)
			if !impl.TreeValid(k, good) {
				t.Fatalf("TreeValid(%d, %v) is false", k, good)
			}
			for at := range nodesOf(&good) {
				for _, change := range changes(k) {
					bad := cloneTree(good)
					change(nodesOf(&bad)[at])
					rejectChanged(t, k, good, bad)
				}
				checkCut(t, k, good, at)
			}
		}
	}
}

// rejectChanged checks that a tree is neither valid nor the same as before.
func rejectChanged(t *testing.T, k int, good, bad impl.Tree) {
	t.Helper()
	if impl.TreeSame(good, bad) || impl.TreeSame(bad, good) {
		t.Fatalf("TreeSame of %v and %v is true", good, bad)
	}
	rejectTree(t, k, bad)
}

// checkCut checks a tree in which the node at has one kid less, or no kids.
func checkCut(t *testing.T, k int, good impl.Tree, at int) {
	t.Helper()
	for count := range 2 {
		bad := cloneTree(good)
		node := nodesOf(&bad)[at]
		if len(node.Kids) == 2 {
			node.Kids = node.Kids[:count]
			rejectTree(t, k, bad)
		}
	}
}

// TestTreeOrder: times that are out of order, also far from each other in the tree.
func TestTreeOrder(t *testing.T) {
	for k := 1; k <= 10; k++ {
		good := full(3, 10).moved(0, 10)
		times := good.times()
		for i := range times {
			for _, time := range slices.Concat(times, []int{0, 95, 9999}) {
				list := slices.Clone(times)
				list[i] = time
				s := full(3, 0)
				for n, node := range []*shape{s.kids[0].kids[0], s.kids[0], s.kids[0].kids[1], s, s.kids[1].kids[0], s.kids[1], s.kids[1].kids[1]} {
					node.time = list[n]
				}
				tree := treeOf(k, s, map[int][]int{})
				for n, node := range nodesOf(&tree) {
					if len(node.Kids) == 2 {
						node.Item = direct(k, []int{n})
					}
				}
				summed(t, k, &tree)
				ascends := slices.IsSorted(list) && len(slices.Compact(slices.Clone(list))) == len(list)
				if impl.TreeValid(k, tree) != ascends {
					t.Errorf("TreeValid(%d) of the times %v is %v", k, list, !ascends)
				}
				if !ascends {
					rejectTree(t, k, tree)
				}
				if got := impl.TreeTimes(tree); !slices.Equal(got, list) {
					t.Errorf("TreeTimes(%s) = %v", look(tree), got)
				}
			}
		}
	}
}

// summed gives the nodes of a tree the aggregates that belong to their Items, as far as there are any.
func summed(t *testing.T, k int, tree *impl.Tree) impl.Value {
	t.Helper()
	if len(tree.Kids) != 2 {
		return direct(k, nil)
	}
	first, second := summed(t, k, &tree.Kids[0]), summed(t, k, &tree.Kids[1])
	v, _ := impl.CombineValues(k, first, tree.Item)
	tree.Agg, _ = impl.CombineValues(k, v, second)
	return tree.Agg
}

// TestTreeItemInvalid: an Item that is not valid, in a tree whose Aggs are.
func TestTreeItemInvalid(t *testing.T) {
	leafOf := func(item, agg impl.Value) impl.Tree {
		return impl.Tree{Time: 5, Item: item, Agg: agg, Height: 1, Kids: make([]impl.Tree, 2)}
	}
	bad := []struct {
		k         int
		item, agg impl.Value
	}{
		{impl.KindSum, value(97, 0, 0), value(0, 0, 0)}, {impl.KindSum, value(100, 0, 0), value(3, 0, 0)}, {impl.KindSum, value(3, 1, 0), value(3, 0, 0)},
		{impl.KindCount, value(1, 0, 1), value(1, 0, 0)}, {impl.KindMean, value(5, 1, 1), value(5, 1, 0)},
		{impl.KindMap, value(98, 5, 0), value(1, 5, 0)}, {impl.KindMap, value(2, 102, 0), value(2, 5, 0)}, {impl.KindMap, value(0, 0, 0), value(1, 0, 0)},
		{impl.KindMost, value(5, 0, 0), value(0, 0, 0)}, {impl.KindRise, value(5, 5, 0), value(0, 0, 0)}, {impl.KindPlace, value(5, 0, 0), value(0, 0, 0)},
	}
	for _, b := range bad {
		rejectTree(t, b.k, leafOf(b.item, b.agg))
		rejectTree(t, b.k, leafOf(b.item, b.item))
	}
	for _, n := range notItems {
		for k, at := range map[int]int{impl.KindFirst: 1, impl.KindLast: 0, impl.KindLeast: 1, impl.KindMost: 1} {
			tree := filled(k, full(2, 4))
			if at == 1 && (k == impl.KindLeast && n < 97 || k == impl.KindMost && n > 0) {
				continue // The whole has it, too.
			}
			tree.Kids[at].Item = value(n, 1, 0)
			tree.Kids[at].Agg = value(n, 1, 0)
			rejectTree(t, k, tree)
		}
	}
	// Aggregates that can be those of items, or of none, are valid.
	for k := 1; k <= 10; k++ {
		for _, v := range samples(t, k) {
			if !impl.TreeValid(k, leafOf(v, v)) {
				t.Errorf("TreeValid(%d) of the Item %v is false", k, v)
			}
			if got, ok := impl.TreeItem(k, leafOf(v, v), 5); !ok || got != v {
				t.Errorf("TreeItem(%d) = %v, %v, not %v", k, got, ok, v)
			}
		}
	}
}

// TestTreeAggLimits: results whose aggregate would be past a limit, and such that are just within it.
func TestTreeAggLimits(t *testing.T) {
	leafOf := func(time int, v impl.Value) impl.Tree {
		return impl.Tree{Time: time, Item: v, Agg: v, Height: 1, Kids: make([]impl.Tree, 2)}
	}
	cases := []struct {
		k             int
		within, limit impl.Value
	}{
		{impl.KindCount, value(999999, 0, 0), value(1000000, 0, 0)},
		{impl.KindMean, value(7, 9999, 0), value(7, 10000, 0)},
		{impl.KindRise, value(5, 6, 999999), value(5, 6, 1000000)},
		{impl.KindPlace, value(5, 6, 999999), value(5, 6, 1000000)},
	}
	for _, c := range cases {
		for _, time := range []int{5, 9} { // with the others, and behind them
			one := putAll(t, c.k, []impl.Event{{Time: time, Item: 96}})
			whole, _ := impl.CombineValues(c.k, c.within, one.Agg)
			for n, v := range []impl.Value{c.within, c.limit} {
				tree := leafOf(5, v)
				put, ok := impl.PutItem(c.k, tree, time, 96)
				union, fine := impl.UnionTrees(c.k, tree, one)
				if n == 0 && (!ok || !fine || put.Agg != whole || union.Agg != whole) {
					t.Errorf("kind %d: %v, %v and %v, %v, not %v", c.k, put, ok, union, fine, whole)
				}
				if n == 1 && (ok || fine || !sameTree(put, impl.Tree{}) || !sameTree(union, impl.Tree{})) {
					t.Errorf("kind %d: %v, %v and %v, %v", c.k, put, ok, union, fine)
				}
				if time == 5 {
					continue
				}
				join, ok := impl.JoinTrees(c.k, tree, one)
				if n == 0 && (!ok || join.Agg != whole) || n == 1 && (ok || !sameTree(join, impl.Tree{})) {
					t.Errorf("JoinTrees(%d) = %v, %v", c.k, join, ok)
				}
			}
		}
		// Both nodes are valid, and so could the sum be, but for the limit.
		both := leafOf(5, c.limit)
		both.Height, both.Kids = 2, []impl.Tree{{}, leafOf(9, c.limit)}
		rejectTree(t, c.k, both)
		both.Agg = value(2*c.limit.X, 2*c.limit.Y, 2*c.limit.Z)
		rejectTree(t, c.k, both)
	}
	// An item that is no rise leaves the number of rises at its limit.
	tree := mustPut(t, impl.KindRise, leafOf(5, value(5, 6, 1000000)), 9, 6)
	if tree.Agg != value(5, 6, 1000000) {
		t.Errorf("PutItem = %v", tree)
	}
}

// TestTreeTimesInvalid: trees that are not valid have the times of nodes with two Kids.
func TestTreeTimesInvalid(t *testing.T) {
	leaf := func(time int) impl.Tree { return impl.Tree{Time: time, Kids: make([]impl.Tree, 2)} }
	node := func(time int, kids ...impl.Tree) impl.Tree { return impl.Tree{Time: time, Kids: kids} }
	cases := []struct {
		tree impl.Tree
		want []int
	}{
		{impl.Tree{}, nil},
		{impl.Tree{Time: 5, Height: 1, Item: value(1, 0, 0), Agg: value(1, 0, 0)}, nil},
		{leaf(5), []int{5}},
		{leaf(-5), []int{-5}},
		{leaf(math.MaxInt), []int{math.MaxInt}},
		{impl.Tree{Height: 99, Kids: make([]impl.Tree, 2)}, []int{0}},
		{node(5, leaf(3)), nil},
		{node(5, leaf(3), leaf(4), leaf(6)), nil},
		{node(5, leaf(9), leaf(1)), []int{9, 5, 1}},
		{node(5, leaf(5), leaf(5)), []int{5, 5, 5}},
		{node(5, node(3, leaf(1)), leaf(7)), []int{5, 7}},
		{node(5, leaf(7), node(3, leaf(1), leaf(2), leaf(4))), []int{7, 5}},
		{node(5, node(3, leaf(1), leaf(4)), impl.Tree{Time: 8}), []int{1, 3, 4, 5}},
		{node(1, impl.Tree{}, node(2, impl.Tree{}, node(3, node(4, leaf(5), impl.Tree{}), impl.Tree{}))), []int{1, 2, 5, 4, 3}},
	}
	for _, c := range cases {
		if got := impl.TreeTimes(c.tree); !slices.Equal(got, c.want) {
			t.Errorf("TreeTimes(%v) = %v, not %v", c.tree, got, c.want)
		}
		if !impl.TreeSame(c.tree, cloneTree(c.tree)) {
			t.Errorf("TreeSame(%v) of the same is false", c.tree)
		}
	}
	for i, a := range cases {
		for j, b := range cases {
			if got := impl.TreeSame(a.tree, b.tree); got != (i == j) {
				t.Errorf("TreeSame(%v, %v) is %v", a.tree, b.tree, got)
			}
		}
	}
}

// TestTreeSame: no slice and an empty one are the same; trees of other shapes
// with the same times and items are not.
func TestTreeSame(t *testing.T) {
	if !impl.TreeSame(impl.Tree{}, impl.Tree{Kids: []impl.Tree{}}) || !impl.TreeSame(impl.Tree{Kids: make([]impl.Tree, 0, 5)}, impl.Tree{}) {
		t.Error("TreeSame tells no Kids from empty ones")
	}
	k := impl.KindSum
	all := slices.Concat(balanced(6)...)
	for i, a := range all {
		for j, b := range all {
			if got := impl.TreeSame(filled(k, a), filled(k, b)); got != (i == j) {
				t.Errorf("TreeSame(%s, %s) is %v", look(filled(k, a)), look(filled(k, b)), got)
			}
		}
	}
	a := filled(k, full(2, 4))
	a.Kids[1].Kids = []impl.Tree{{}, {Kids: []impl.Tree{}}}
	if !impl.TreeSame(a, filled(k, full(2, 4))) || !impl.TreeValid(k, a) {
		t.Error("TreeSame or TreeValid tells no Kids from empty ones")
	}
}

// TestTreeEndless: trees that are far too deep, or parts of themselves.
func TestTreeEndless(t *testing.T) {
	for side := range 2 {
		deep, other, want := impl.Tree{}, impl.Tree{}, make([]int, 300000)
		for i := range want {
			kids, others := make([]impl.Tree, 2), make([]impl.Tree, 2)
			kids[side], others[side] = deep, other
			deep, other = impl.Tree{Time: i, Kids: kids}, impl.Tree{Time: i, Kids: others}
			want[i] = i
		}
		if side == 1 {
			slices.Reverse(want)
		}
		if times := impl.TreeTimes(deep); !slices.Equal(times, want) {
			t.Errorf("TreeTimes of a deep tree has %d times", len(times))
		}
		if !impl.TreeSame(deep, other) || impl.TreeSame(deep, deep.Kids[side]) {
			t.Error("TreeSame of deep trees is wrong")
		}
		rejectShort(t, deep)
		kids := []impl.Tree{{Time: 1}, {Time: 1}}
		kids[side].Kids = kids
		endless := impl.Tree{Time: 5, Kids: kids}
		if times := impl.TreeTimes(endless); len(times) != 0 {
			t.Errorf("TreeTimes of a tree in itself = %v", times)
		}
		rejectShort(t, endless)
		again := []impl.Tree{{Time: 1}, {Time: 1}}
		again[side].Kids = []impl.Tree{{Time: 1}, {Time: 1}}
		again[side].Kids[side].Kids = again
		if !impl.TreeSame(endless, impl.Tree{Time: 5, Kids: again}) || impl.TreeSame(endless, impl.Tree{Time: 5, Kids: kids[:1]}) {
			t.Error("TreeSame of trees in themselves is wrong")
		}
	}
	// A tree in which parts are the same memory is not in itself.
	leaf := impl.Tree{Time: 1, Kids: make([]impl.Tree, 2)}
	pair := impl.Tree{Time: 2, Kids: []impl.Tree{leaf, leaf}}
	if times := impl.TreeTimes(impl.Tree{Time: 3, Kids: []impl.Tree{pair, pair}}); !slices.Equal(times, []int{1, 2, 1, 3, 1, 2, 1}) {
		t.Errorf("TreeTimes = %v", times)
	}
	for range 60 {
		pair = impl.Tree{Time: 2, Kids: []impl.Tree{pair, pair}}
	}
	if !impl.TreeSame(pair, pair) {
		t.Error("TreeSame of a tree and itself is false")
	}
	rejectShort(t, pair)
}

// rejectShort is rejectTree for trees that are too large to be shown.
func rejectShort(t *testing.T, tree impl.Tree) {
	t.Helper()
	_, ok1 := impl.PutItem(1, tree, 5, 7)
	_, _, ok2 := impl.SplitTree(1, tree, 5)
	_, ok3 := impl.JoinTrees(1, impl.Tree{}, tree)
	_, ok4 := impl.UnionTrees(1, tree, impl.Tree{})
	if impl.TreeValid(1, tree) || ok1 || ok2 || ok3 || ok4 {
		t.Error("a tree that is too deep is accepted")
	}
}

// roomyTree is a tree in memory of its own, with spare capacity that is not empty.
func roomyTree(t impl.Tree) impl.Tree {
	junk := impl.Tree{Time: -7, Item: value(-7, -7, -7), Height: -7}
	kids := append(slices.Clone(t.Kids), junk, junk, junk, junk)
	for i := range t.Kids {
		kids[i] = roomyTree(t.Kids[i])
	}
	t.Kids = kids[:len(t.Kids)]
	return t
}

// wholeTree is a copy of a tree with its spare capacity.
func wholeTree(t impl.Tree) impl.Tree {
	t.Kids = slices.Clone(t.Kids[:cap(t.Kids)])
	for i := range t.Kids {
		t.Kids[i] = wholeTree(t.Kids[i])
	}
	return t
}

// checkApart checks that trees share no memory, and that no two parts of one do.
func checkApart(t *testing.T, name string, trees ...impl.Tree) {
	t.Helper()
	seen := map[*impl.Tree]bool{}
	var visit func(tree impl.Tree)
	visit = func(tree impl.Tree) {
		kids := tree.Kids[:cap(tree.Kids)]
		for i := range kids {
			if seen[&kids[i]] {
				t.Fatalf("%s: a tree shares memory: %v", name, trees)
			}
			seen[&kids[i]] = true
			visit(kids[i])
		}
	}
	for _, tree := range trees {
		visit(tree)
	}
}

// TestTreesOwn: results have memory of their own in every call, and arguments
// keep theirs, also what is beyond their length.
func TestTreesOwn(t *testing.T) {
	all := slices.Concat(balanced(5)...)
	all = append(all, rising(0, 30), leaning(6, 0, 0), leaning(6, 0, 1))
	for i, s := range all {
		for j, other := range all {
			k := 1 + (i+j)%10
			a, b := roomyTree(filled(k, s)), roomyTree(filled(k, other.moved(40, 2)))
			wholeA, wholeB := wholeTree(a), wholeTree(b)
			results := []impl.Tree{a, b}
			for range 2 {
				join, ok1 := impl.JoinTrees(k, a, b)
				union, ok2 := impl.UnionTrees(k, a, b)
				back, ok3 := impl.UnionTrees(k, b, a)
				twice, ok4 := impl.UnionTrees(k, a, a)
				before, behind, ok5 := impl.SplitTree(k, a, j)
				put, ok6 := impl.PutItem(k, b, 40+i, 7)
				if !ok1 || !ok2 || !ok3 || !ok4 || !ok5 || !ok6 {
					t.Fatalf("kind %d: a function of %s and %s returns false", k, look(a), look(b))
				}
				results = append(results, join, union, back, twice, before, behind, put)
			}
			impl.TreeItem(k, a, 3)
			impl.RangeValue(k, a, 1, 3)
			impl.TreeSame(a, b)
			checkApart(t, look(a)+" and "+look(b), results...)
			if !sameTree(wholeTree(a), wholeA) || !sameTree(wholeTree(b), wholeB) {
				t.Fatalf("kind %d: a function writes on %s or %s", k, look(a), look(b))
			}
			for n, tree := range results[2:9] {
				if !sameTree(tree, results[9+n]) {
					t.Fatalf("kind %d: the result %d of %s and %s is not the same again", k, n, look(a), look(b))
				}
			}
		}
	}
}

// TestTreesSpoiled: results stay as they are when arguments are written over,
// and arguments when results are.
func TestTreesSpoiled(t *testing.T) {
	for k := 1; k <= 10; k++ {
		a, b := roomyTree(filled(k, leaning(4, 0, 1))), roomyTree(filled(k, full(3, 50)))
		none := impl.Tree{Kids: make([]impl.Tree, 0, 9)}
		var results []impl.Tree
		for _, pair := range [][2]impl.Tree{{a, b}, {none, b}, {a, none}, {none, none}} {
			join, _ := impl.JoinTrees(k, pair[0], pair[1])
			union, _ := impl.UnionTrees(k, pair[0], pair[1])
			before, behind, _ := impl.SplitTree(k, pair[0], 3)
			put, _ := impl.PutItem(k, pair[1], 52, 3)
			results = append(results, join, union, before, behind, put)
		}
		checkApart(t, "arguments and results", append(results, a, b, none)...)
		var copies []impl.Tree
		for _, tree := range results {
			copies = append(copies, cloneTree(tree))
		}
		for _, tree := range []impl.Tree{a, b, none} {
			for _, node := range nodesOf(&tree) {
				*node = impl.Tree{Time: -9}
			}
			for i := range tree.Kids[:cap(tree.Kids)] {
				tree.Kids[:cap(tree.Kids)][i] = impl.Tree{Time: -9}
			}
		}
		for i, tree := range results {
			if !sameTree(tree, copies[i]) {
				t.Fatalf("kind %d: the result %d becomes %v", k, i, tree)
			}
		}
		times := impl.TreeTimes(results[0])
		want := slices.Clone(times)
		spoilNumbers(impl.TreeTimes(results[0]))
		if !slices.Equal(times, want) || !slices.Equal(impl.TreeTimes(results[0]), want) {
			t.Errorf("kind %d: results of TreeTimes share memory", k)
		}
	}
}
