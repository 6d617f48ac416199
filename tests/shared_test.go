package tests

import (
	"math"
	"slices"
	"testing"

	"loop.example/windowaggregates/impl"
)

// notCounts are numbers of items that no list has.
var notCounts = []int{math.MinInt, math.MinInt + 1, -61, -60, -2, -1, 61, 62, 1000, math.MaxInt - 1, math.MaxInt}

func query(size, hop int) impl.Query { return impl.Query{Size: size, Hop: hop} }

// someQueries are count different queries, with sizes and hops up to most.
func someQueries(seed, count, most int) []impl.Query {
	var list []impl.Query
	for i := range count {
		// Steps by a prime that does not divide most come to each query once.
		n := seed*101 + i*1237
		list = append(list, query(n%most+1, n/most%most+1))
	}
	return list
}

// begins reports whether a window of q begins at a place.
func begins(q impl.Query, place, items int) bool {
	return place >= 0 && place%q.Hop == 0 && place+q.Size <= items
}

// plainCuts are the cuts, found by trying each place.
func plainCuts(list []impl.Query, items int) []int {
	var cuts []int
	for place := range items + 1 {
		for _, q := range list {
			if begins(q, place, items) || begins(q, place-q.Size, items) {
				cuts = append(cuts, place)
				break
			}
		}
	}
	return cuts
}

// plainShared counts what all queries cost alone and from slices, one by one.
func plainShared(list []impl.Query, items int) (int, int) {
	alone, shared := 0, 0
	cuts := plainCuts(list, items)
	for i := range items {
		if len(cuts) > 0 && slices.Min(cuts) <= i && i < slices.Max(cuts) {
			shared++
		}
	}
	for _, q := range list {
		for place := range items {
			if !begins(q, place, items) {
				continue
			}
			for i := range q.Size {
				alone++
				if slices.Contains(cuts, place+i) {
					shared++
				}
			}
		}
	}
	return alone, shared
}

// sameRows reports whether two lists of numbers for queries are equal.
func sameRows(a, b [][]int) bool {
	return slices.EqualFunc(a, b, func(x, y []int) bool { return slices.Equal(x, y) })
}

func cloneRows(numbers [][]int) [][]int {
	numbers = slices.Clone(numbers)
	for i := range numbers {
		numbers[i] = slices.Clone(numbers[i])
	}
	return numbers
}

// checkShared checks that the numbers of each query are those that it has alone,
// and that the slices have the aggregates of their items.
func checkShared(t *testing.T, k int, list []impl.Query, items []int) {
	t.Helper()
	listBefore, itemsBefore := slices.Clone(list), slices.Clone(items)
	numbers, ok := impl.SharedNumbers(k, list, items)
	if !ok || len(numbers) != len(list) {
		t.Fatalf("SharedNumbers(%d, %v, %v) = %v, %v", k, list, items, numbers, ok)
	}
	for i, q := range list {
		var want []int
		for _, row := range hopRows(items, q.Size, q.Hop) {
			want = append(want, directNumber(k, row))
		}
		alone, ok := impl.HopNumbers(k, items, q.Size, q.Hop)
		if !ok || !slices.Equal(numbers[i], alone) || !slices.Equal(numbers[i], want) {
			t.Fatalf("SharedNumbers(%d, %v, %v) has %v for %v, not %v, and HopNumbers %v", k, list, items, numbers[i], q, want, alone)
		}
	}
	var want []impl.Value
	cuts := plainCuts(list, len(items))
	for i := range cuts[min(1, len(cuts)):] {
		want = append(want, direct(k, items[cuts[i]:cuts[i+1]]))
	}
	if parts, ok := impl.SlicesOf(k, list, items); !ok || !slices.Equal(parts, want) {
		t.Fatalf("SlicesOf(%d, %v, %v) = %v, %v, not %v", k, list, items, parts, ok, want)
	}
	if !slices.Equal(list, listBefore) || !slices.Equal(items, itemsBefore) {
		t.Fatalf("%v and %v have become %v and %v", listBefore, itemsBefore, list, items)
	}
}

// checkCuts checks what does not depend on what the items are.
func checkCuts(t *testing.T, list []impl.Query, items int) {
	t.Helper()
	before := slices.Clone(list)
	alone, shared := plainShared(list, items)
	wantCuts(t, list, items, alone, shared, plainCuts(list, items)...)
	if !slices.Equal(list, before) {
		t.Fatalf("%v has become %v", before, list)
	}
}

// wantCuts checks a valid list of queries, its costs, and its cuts.
func wantCuts(t *testing.T, list []impl.Query, items, alone, shared int, cuts ...int) {
	t.Helper()
	if !impl.QueriesValid(list) {
		t.Fatalf("QueriesValid(%v) is false", list)
	}
	if got, ok := impl.CutsOf(list, items); !ok || !slices.Equal(got, cuts) {
		t.Fatalf("CutsOf(%v, %d) = %v, %v, not %v", list, items, got, ok, cuts)
	}
	if a, b, ok := impl.SharedCosts(list, items); !ok || a != alone || b != shared {
		t.Fatalf("SharedCosts(%v, %d) = %d, %d, %v, not %d, %d", list, items, a, b, ok, alone, shared)
	}
}

// wantNumbers checks the numbers of a valid list of queries.
func wantNumbers(t *testing.T, k int, list []impl.Query, items []int, want ...[]int) {
	t.Helper()
	if got, ok := impl.SharedNumbers(k, list, items); !ok || !sameRows(got, want) {
		t.Fatalf("SharedNumbers(%d, %v, %v) = %v, %v, not %v", k, list, items, got, ok, want)
	}
}

// wantAdded checks that a query can be added, and what comes of this.
func wantAdded(t *testing.T, list []impl.Query, q impl.Query, want ...impl.Query) {
	t.Helper()
	before := slices.Clone(list)
	if got, ok := impl.AddQuery(list, q); !ok || !slices.Equal(got, want) || !impl.QueriesValid(got) {
		t.Fatalf("AddQuery(%v, %v) = %v, %v, not %v", before, q, got, ok, want)
	}
	if !slices.Equal(list, before) {
		t.Fatalf("AddQuery(%v, %v) changes its argument to %v", before, q, list)
	}
}

func rejectAdded(t *testing.T, list []impl.Query, q impl.Query) {
	t.Helper()
	if got, ok := impl.AddQuery(list, q); ok || len(got) != 0 {
		t.Fatalf("AddQuery(%v, %v) = %v, %v", list, q, got, ok)
	}
}

func rejectShared(t *testing.T, k int, list []impl.Query, items []int) {
	t.Helper()
	if got, ok := impl.SlicesOf(k, list, items); ok || len(got) != 0 {
		t.Fatalf("SlicesOf(%d, %v, %v) = %v, %v", k, list, items, got, ok)
	}
	if got, ok := impl.SharedNumbers(k, list, items); ok || len(got) != 0 {
		t.Fatalf("SharedNumbers(%d, %v, %v) = %v, %v", k, list, items, got, ok)
	}
}

func rejectCuts(t *testing.T, list []impl.Query, items int) {
	t.Helper()
	if got, ok := impl.CutsOf(list, items); ok || len(got) != 0 {
		t.Fatalf("CutsOf(%v, %d) = %v, %v", list, items, got, ok)
	}
	if a, b, ok := impl.SharedCosts(list, items); ok || a != 0 || b != 0 {
		t.Fatalf("SharedCosts(%v, %d) = %d, %d, %v", list, items, a, b, ok)
	}
}

// rejectQueries checks that no function accepts a list of queries.
func rejectQueries(t *testing.T, list []impl.Query) {
	t.Helper()
	if impl.QueriesValid(list) {
		t.Fatalf("QueriesValid(%v) is true", list)
	}
	for _, items := range [][]int{nil, {1}, {1, 2, 3, 4, 5}, directWindow(pushes(60))} {
		rejectCuts(t, list, len(items))
		for k := 1; k <= 10; k++ {
			rejectShared(t, k, list, items)
		}
	}
	// A query that the list may not have, and all that it has.
	rejectAdded(t, list, query(59, 58))
	for _, q := range list {
		rejectAdded(t, list, q)
	}
}

// TestPromise9Short: all lists of up to two small queries, with up to eight items.
func TestPromise9Short(t *testing.T) {
	items := []int{9, 1, 5, 7, 7, 2, 96, 8}
	lists := [][]impl.Query{nil}
	for a := range 16 {
		lists = append(lists, []impl.Query{query(a/4+1, a%4+1)})
		for b := range 16 {
			if b != a {
				lists = append(lists, []impl.Query{query(a/4+1, a%4+1), query(b/4+1, b%4+1)})
			}
		}
	}
	for _, list := range lists {
		for count := range len(items) + 1 {
			checkCuts(t, list, count)
			for k := 1; k <= 10; k++ {
				checkShared(t, k, list, items[:count])
			}
		}
	}
}

// longItems are lists of up to 60 items, with and without ties.
func longItems() [][]int {
	plain := directWindow(pushes(60))
	tied := make([]int, 60)
	for i := range tied {
		tied[i] = 96 - i*i/3%11
	}
	return [][]int{plain, tied, plain[:59], tied[:31]}
}

// TestPromise9Long: lists of up to 8 queries, with small sizes and with all of them.
func TestPromise9Long(t *testing.T) {
	for n, items := range longItems() {
		for seed := range 24 {
			for _, most := range []int{6, 14, 60} {
				list := someQueries(seed+n*24, 8-seed%3, most)
				checkCuts(t, list, len(items))
				for k := 1; k <= 10; k++ {
					checkShared(t, k, list, items)
				}
			}
		}
	}
}

// TestPromise9Sizes: each query alone and with another one, for each kind in turn.
func TestPromise9Sizes(t *testing.T) {
	lists := longItems()
	for size := 1; size <= 60; size++ {
		for hop := 1; hop <= 60; hop++ {
			n := size*7 + hop
			items := lists[n%len(lists)]
			alone := []impl.Query{query(size, hop)}
			both := []impl.Query{query(size, hop), query(size%60+1, 61-hop)}
			checkShared(t, n%10+1, alone, items)
			checkShared(t, (n+5)%10+1, both, items)
			checkCuts(t, alone, len(items))
			checkCuts(t, both, len(items))
		}
	}
}

// TestPromise9Numbers has numbers by hand, for windows of two and of four slices,
// in which the order of the items matters for five of the kinds.
func TestPromise9Numbers(t *testing.T) {
	items := []int{9, 1, 5, 7, 2, 6, 8}
	list := []impl.Query{query(4, 2), query(2, 4), query(6, 1), query(8, 1)}
	wants := [][][]int{
		{},
		{{22, 20}, {10, 8}, {30, 29}, {}},
		{{4, 4}, {2, 2}, {6, 6}, {}},
		{{1, 2}, {1, 2}, {1, 1}, {}},
		{{9, 7}, {9, 6}, {9, 8}, {}},
		{{9, 5}, {9, 2}, {9, 1}, {}},
		{{7, 6}, {1, 6}, {6, 8}, {}},
		{{5, 5}, {5, 4}, {5, 4}, {}},
		{{85, 75}, {21, 41}, {59, 9}, {}},
		{{2, 2}, {0, 1}, {3, 4}, {}},
		{{0, 1}, {0, 1}, {0, 5}, {}},
	}
	for k := 1; k <= 10; k++ {
		wantNumbers(t, k, list, items, wants[k]...)
		checkShared(t, k, list, items)
		// The numbers come in the order of the queries.
		wantNumbers(t, k, []impl.Query{list[2], list[3], list[0]}, items, wants[k][2], wants[k][3], wants[k][0])
	}
}

// TestSharedExample is the document's example.
func TestSharedExample(t *testing.T) {
	list := []impl.Query{query(4, 2), query(6, 4)}
	items := []int{1, 2, 3, 4, 5, 6, 7, 8, 9, 10}
	wantCuts(t, list, 10, 28, 24, 0, 2, 4, 6, 8, 10)
	if parts, ok := impl.SlicesOf(impl.KindSum, list, items); !ok || !slices.Equal(parts, sums(3, 7, 11, 15, 19)) {
		t.Errorf("SlicesOf = %v, %v", parts, ok)
	}
	wantNumbers(t, impl.KindSum, list, items, []int{10, 18, 26, 34}, []int{21, 45})
	wantCuts(t, list, 11, 28, 24, 0, 2, 4, 6, 8, 10)
	wantCuts(t, list, 9, 18, 17, 0, 2, 4, 6, 8)
}

// TestCutsHand has cuts and costs by hand.
func TestCutsHand(t *testing.T) {
	// Hops greater than the sizes leave items out between windows, which are a
	// slice all the same, and behind the last one, which are none.
	wantCuts(t, []impl.Query{query(3, 5)}, 9, 6, 10, 0, 3, 5, 8)
	wantCuts(t, []impl.Query{query(3, 5)}, 12, 6, 10, 0, 3, 5, 8)
	wantCuts(t, []impl.Query{query(3, 5)}, 13, 9, 16, 0, 3, 5, 8, 10, 13)
	wantCuts(t, []impl.Query{query(1, 60)}, 60, 1, 2, 0, 1)
	wantCuts(t, []impl.Query{query(2, 5), query(1, 4)}, 7, 6, 12, 0, 1, 2, 4, 5, 7)
	// Queries without windows cost nothing, and neither does a list of them.
	wantCuts(t, []impl.Query{query(6, 1)}, 5, 0, 0)
	wantCuts(t, []impl.Query{query(6, 1), query(60, 60)}, 5, 0, 0)
	wantCuts(t, []impl.Query{query(6, 1), query(2, 3)}, 5, 4, 7, 0, 2, 3, 5)
	// The only window of a query has all items.
	wantCuts(t, []impl.Query{query(7, 2)}, 7, 7, 8, 0, 7)
	wantCuts(t, []impl.Query{query(7, 2), query(3, 3)}, 7, 13, 12, 0, 3, 6, 7)
	wantCuts(t, []impl.Query{query(60, 1)}, 60, 60, 61, 0, 60)
	// Windows of one query, and of several ones, that begin and end at the same places.
	wantCuts(t, []impl.Query{query(2, 2)}, 6, 6, 9, 0, 2, 4, 6)
	wantCuts(t, []impl.Query{query(2, 2), query(4, 2)}, 6, 14, 13, 0, 2, 4, 6)
	wantCuts(t, []impl.Query{query(4, 5), query(4, 9)}, 4, 8, 6, 0, 4)
	wantCuts(t, []impl.Query{query(2, 2), query(2, 4), query(4, 4)}, 8, 20, 18, 0, 2, 4, 6, 8)
	// Nothing to share.
	wantCuts(t, []impl.Query{query(1, 1)}, 3, 3, 6, 0, 1, 2, 3)
	wantCuts(t, []impl.Query{query(2, 1)}, 4, 6, 10, 0, 1, 2, 3, 4)
}

// TestNoQueries: a list without queries has no cuts, no slices and no numbers.
func TestNoQueries(t *testing.T) {
	for _, list := range [][]impl.Query{nil, {}} {
		for count := range 61 {
			wantCuts(t, list, count, 0, 0)
			for k := 1; k <= 10; k++ {
				checkShared(t, k, list, directWindow(pushes(count)))
			}
		}
	}
}

// TestSharedNone: no items, and fewer items than each query has, make no windows.
func TestSharedNone(t *testing.T) {
	items := directWindow(pushes(60))
	for size := 1; size <= 60; size++ {
		list := []impl.Query{query(size, 1), query(60, size), query(size, 60)}[:min(3, 61-size)]
		for k := 1; k <= 10; k++ {
			for _, few := range [][]int{nil, {}, items[:size-1]} {
				wantNumbers(t, k, list, few, make([][]int, len(list))...)
				if parts, ok := impl.SlicesOf(k, list, few); !ok || len(parts) != 0 {
					t.Fatalf("SlicesOf(%d, %v, %v) = %v, %v", k, list, few, parts, ok)
				}
			}
		}
		wantCuts(t, list, 0, 0, 0)
		wantCuts(t, list, size-1, 0, 0)
	}
}

// TestSharedGaps has slices by hand: those between windows are in no number, and
// what is behind the last cut is in no slice.
func TestSharedGaps(t *testing.T) {
	items := []int{1, 2, 10, 20, 30, 4, 8, 90, 91}
	list := []impl.Query{query(2, 5)}
	if parts, ok := impl.SlicesOf(impl.KindSum, list, items); !ok || !slices.Equal(parts, sums(3, 60, 12)) {
		t.Errorf("SlicesOf = %v, %v", parts, ok)
	}
	wantNumbers(t, impl.KindSum, list, items, []int{3, 12})
	if parts, ok := impl.SlicesOf(impl.KindPlace, list, items); !ok || !slices.Equal(parts, []impl.Value{value(2, 1, 2), value(30, 2, 3), value(8, 1, 2)}) {
		t.Errorf("SlicesOf = %v, %v", parts, ok)
	}
	wantNumbers(t, impl.KindPlace, list, items, []int{1, 1})
	if parts, ok := impl.SlicesOf(impl.KindMap, list, items); !ok || !slices.Equal(parts, []impl.Value{value(6, 5, 0), value(24, 36, 0), value(45, 44, 0)}) {
		t.Errorf("SlicesOf = %v, %v", parts, ok)
	}
	wantNumbers(t, impl.KindMap, list, items, []int{11, 89})
}

// TestSharedLimits: 60 items, 8 queries, and both at the limits of their sizes.
func TestSharedLimits(t *testing.T) {
	var all []int
	for place := range 61 {
		all = append(all, place)
	}
	ones := []impl.Query{query(1, 1), query(1, 60), query(60, 1), query(60, 60), query(59, 1), query(2, 59), query(60, 59), query(1, 59)}
	// 60 slices once, and in the windows 60, 1, 60, 60, 118, 2, 60 and 2 of them.
	wantCuts(t, ones, 60, 363, 423, all...)
	// Four slices without the first query, and in the other windows 1, 4, 4, 6, 2, 4 and 2 of them.
	wantCuts(t, ones[1:], 60, 303, 83, 0, 1, 2, 59, 60)
	wantCuts(t, []impl.Query{query(60, 60)}, 60, 60, 61, 0, 60)
	wantCuts(t, []impl.Query{query(60, 60)}, 59, 0, 0)
	wantCuts(t, []impl.Query{query(1, 1)}, 60, 60, 120, all...)
	for k := 1; k <= 10; k++ {
		for _, items := range longItems() {
			checkShared(t, k, ones, items)
			checkShared(t, k, ones[1:], items)
		}
	}
	for _, count := range []int{0, 1, 2, 58, 59, 60} {
		checkCuts(t, ones, count)
		checkCuts(t, ones[1:], count)
	}
}

// TestQueriesValid: each size and hop, all in lists of 8, and queries that differ in one number only.
func TestQueriesValid(t *testing.T) {
	for n := range 3600 / 8 {
		var list []impl.Query
		for i := n * 8; i < n*8+8; i++ {
			list = append(list, query(i/60+1, i%60+1))
		}
		if !impl.QueriesValid(list) || !impl.QueriesValid(list[:n%8]) {
			t.Fatalf("QueriesValid(%v) is false", list)
		}
	}
	for _, list := range [][]impl.Query{nil, {}, {query(2, 3), query(3, 2)}, {query(1, 1), query(1, 2), query(2, 1), query(2, 2)}, {query(60, 60), query(60, 59), query(59, 60)}} {
		if !impl.QueriesValid(list) {
			t.Errorf("QueriesValid(%v) is false", list)
		}
	}
}

// TestAddQuery: queries are added one by one, up to 8; those that the list has
// leave it as it is, wherever they are, also where there is no room.
func TestAddQuery(t *testing.T) {
	for seed := range 50 {
		all := someQueries(seed, 9, []int{6, 14, 60}[seed%3])
		for count := range 9 {
			list := slices.Clone(all[:count])
			if count < 8 {
				wantAdded(t, list, all[count], all[:count+1]...)
			} else {
				rejectAdded(t, list, all[count])
			}
			for _, q := range all[:count] {
				wantAdded(t, list, q, all[:count]...)
			}
		}
	}
	wantAdded(t, []impl.Query{}, query(60, 60), query(60, 60))
	wantAdded(t, nil, query(1, 1), query(1, 1))
	// Size and Hop are not the same thing.
	wantAdded(t, []impl.Query{query(2, 3)}, query(3, 2), query(2, 3), query(3, 2))
	wantAdded(t, []impl.Query{query(2, 3)}, query(2, 2), query(2, 3), query(2, 2))
	wantAdded(t, []impl.Query{query(2, 3)}, query(3, 3), query(2, 3), query(3, 3))
	wantAdded(t, []impl.Query{query(1, 60)}, query(60, 1), query(1, 60), query(60, 1))
}

// TestAddInvalid: a query that is none is added to no list.
func TestAddInvalid(t *testing.T) {
	for count := range 9 {
		list := someQueries(count, count, 60)
		for _, bad := range notSizes {
			for _, good := range []int{1, 2, 60, bad} {
				rejectAdded(t, list, query(bad, good))
				rejectAdded(t, list, query(good, bad))
			}
		}
		rejectAdded(t, list, impl.Query{})
	}
}

// TestQueriesInvalid: a query that is none, wherever it is.
func TestQueriesInvalid(t *testing.T) {
	for _, bad := range notSizes {
		for _, q := range []impl.Query{query(bad, 1), query(1, bad), query(bad, 60), query(60, bad), query(bad, bad)} {
			rejectQueries(t, []impl.Query{q})
		}
		for place := range 8 {
			list := someQueries(place, 8, 60)
			list[place].Size = bad
			rejectQueries(t, list)
			list = someQueries(place, 8, 60)
			list[place].Hop = bad
			rejectQueries(t, list[:place+1])
		}
	}
	rejectQueries(t, []impl.Query{{}})
}

// TestQueriesEqual: two queries that are equal, at all pairs of places.
func TestQueriesEqual(t *testing.T) {
	for b := range 8 {
		for a := range b {
			list := someQueries(a+b, 8, 14)
			list[b] = list[a]
			rejectQueries(t, list)
			rejectQueries(t, list[:b+1])
			rejectQueries(t, []impl.Query{list[a], list[b]})
		}
	}
}

// TestQueriesMany: more than 8 queries, whether or not all of them are different.
func TestQueriesMany(t *testing.T) {
	for _, count := range []int{9, 10, 16, 17, 1000} {
		rejectQueries(t, someQueries(count, count, 60))
	}
	rejectQueries(t, slices.Repeat([]impl.Query{query(2, 3)}, 9))
	rejectQueries(t, append(someQueries(3, 8, 60), someQueries(3, 1, 60)...))
}

// sharedLists are valid lists of queries: none, one without windows, and up to 8.
func sharedLists() [][]impl.Query {
	return [][]impl.Query{nil, {query(1, 1)}, {query(60, 60)}, {query(2, 1), query(3, 5)}, someQueries(5, 8, 6), someQueries(7, 8, 60)}
}

// TestSharedKinds: kinds that are none, also where there is nothing to combine.
func TestSharedKinds(t *testing.T) {
	for _, k := range notKinds {
		for _, list := range sharedLists() {
			for _, items := range [][]int{nil, {1}, {1, 2, 3, 4}, directWindow(pushes(60))} {
				rejectShared(t, k, list, items)
			}
		}
	}
}

// TestSharedCounts: numbers of items that no list has, also where there are no queries.
func TestSharedCounts(t *testing.T) {
	for _, list := range sharedLists() {
		for _, count := range notCounts {
			rejectCuts(t, list, count)
			if count < 61 || count > 1000 {
				continue
			}
			for k := 1; k <= 10; k++ {
				rejectShared(t, k, list, make([]int, count))
			}
		}
	}
}

// TestSharedItems: what is no item, also where no window and no slice has it.
func TestSharedItems(t *testing.T) {
	for _, n := range notItems {
		for _, items := range [][]int{{n}, {n, 1, 2}, {1, n, 2}, {1, 2, n}, {1, 2, 3, n, 5, 6, 7}, append(directWindow(pushes(59)), n)} {
			for _, list := range sharedLists() {
				for k := 1; k <= 10; k++ {
					rejectShared(t, k, list, items)
				}
			}
		}
	}
}

// roomyQueries are queries in memory of their own, with spare capacity that is not empty.
func roomyQueries(list []impl.Query) []impl.Query {
	roomy := slices.Repeat([]impl.Query{query(-7, -7)}, len(list)+20)
	copy(roomy, list)
	return roomy[:len(list)]
}

// spoilQueries writes on all memory of queries, their spare capacity as well.
func spoilQueries(list []impl.Query) {
	list = list[:cap(list)]
	for i := range list {
		list[i] = query(-9, -9)
	}
}

// spoilRows writes on all memory of lists of numbers, one after the other, and
// checks that those behind it keep theirs.
func spoilRows(t *testing.T, numbers [][]int) {
	t.Helper()
	before := cloneRows(numbers)
	for i := range numbers {
		spoilNumbers(numbers[i])
		if !sameRows(numbers[i+1:], before[i+1:]) {
			t.Fatalf("the numbers of two queries share memory: %v", before)
		}
	}
	numbers = numbers[:cap(numbers)]
	for i := range numbers {
		numbers[i] = []int{-9}
	}
}

// TestSharedOwn: results have memory of their own in every call, also those for
// two queries, and queries and items keep theirs, also what is beyond their length.
func TestSharedOwn(t *testing.T) {
	plain := directWindow(pushes(60))
	for k := 1; k <= 10; k++ {
		for _, list := range sharedLists() {
			for _, count := range []int{0, 1, 2, 12, 59, 60} {
				checkSharedOwn(t, k, roomyQueries(list), roomyItems(plain[:count]))
			}
		}
	}
}

func checkSharedOwn(t *testing.T, k int, list []impl.Query, items []int) {
	t.Helper()
	listBefore, itemsBefore := slices.Clone(list[:cap(list)]), slices.Clone(items[:cap(items)])
	count := len(items)
	impl.QueriesValid(list)
	impl.SharedCosts(list, count)
	cuts, _ := impl.CutsOf(list, count)
	cutsAgain, _ := impl.CutsOf(list, count)
	parts, _ := impl.SlicesOf(k, list, items)
	partsAgain, _ := impl.SlicesOf(k, list, items)
	numbers, _ := impl.SharedNumbers(k, list, items)
	numbersAgain, _ := impl.SharedNumbers(k, list, items)
	wantCuts, wantParts, wantNumbers := slices.Clone(cuts), slices.Clone(parts), cloneRows(numbers)
	spoilNumbers(cuts)
	parts = parts[:cap(parts)]
	for i := range parts {
		parts[i] = value(-9, -9, -9)
	}
	spoilRows(t, numbers)
	if !slices.Equal(list[:cap(list)], listBefore) || !slices.Equal(items[:cap(items)], itemsBefore) {
		t.Fatalf("kind %d: a function writes on %v or %v", k, listBefore, itemsBefore)
	}
	spoilQueries(list)
	spoilNumbers(items)
	if !slices.Equal(cutsAgain, wantCuts) || !slices.Equal(partsAgain, wantParts) || !sameRows(numbersAgain, wantNumbers) {
		t.Fatalf("kind %d: results for %v and %v share memory", k, listBefore, itemsBefore)
	}
}

// TestAddOwn: the result of AddQuery has memory of its own in every call, also
// where it is the list itself.
func TestAddOwn(t *testing.T) {
	for _, plain := range sharedLists() {
		for _, q := range append(slices.Clone(plain), query(59, 58)) {
			list := roomyQueries(plain)
			before := slices.Clone(list[:cap(list)])
			first, _ := impl.AddQuery(list, q)
			second, _ := impl.AddQuery(list, q)
			want := slices.Clone(first)
			if !slices.Equal(list[:cap(list)], before) {
				t.Fatalf("AddQuery(%v, %v) writes on its argument", plain, q)
			}
			spoilQueries(first)
			if !slices.Equal(list[:cap(list)], before) {
				t.Fatalf("AddQuery(%v, %v) shares memory with its argument", plain, q)
			}
			spoilQueries(list)
			if !slices.Equal(second, want) {
				t.Fatalf("the results of AddQuery(%v, %v) share memory", plain, q)
			}
		}
	}
}
