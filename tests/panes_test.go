package tests

import (
	"math"
	"slices"
	"testing"

	"loop.example/windowaggregates/impl"
)

// hopRows are the rows of items that begin hop apart, found by trying each item.
func hopRows(items []int, size, hop int) [][]int {
	var all [][]int
	for from := range items {
		if from%hop == 0 && len(items)-from >= size {
			all = append(all, items[from:from+size])
		}
	}
	return all
}

// plainGcd is the greatest number that divides two numbers, found by trying each one.
func plainGcd(a, b int) int {
	g := min(a, b)
	for a%g != 0 || b%g != 0 {
		g--
	}
	return g
}

// plainCosts counts windows, and combinations with and without panes, one by one.
func plainCosts(items, size, hop int) (int, int, int) {
	count, single, panes := 0, 0, 0
	g := plainGcd(size, hop)
	for end := g; end <= items; end += g {
		for range g {
			panes++
		}
	}
	for from := 0; from+size <= items; from += hop {
		count++
		for range size {
			single++
		}
		for pane := 0; pane < size; pane += g {
			panes++
		}
	}
	return count, single, panes
}

// checkHops checks that both functions have the numbers of the windows, which
// are those of FoldItems.
func checkHops(t *testing.T, k int, items []int, size, hop int) {
	t.Helper()
	before := slices.Clone(items)
	var want, folds []int
	for _, row := range hopRows(items, size, hop) {
		want = append(want, directNumber(k, row))
		n, ok := impl.LowerValue(k, mustFold(t, k, row))
		if !ok {
			t.Fatalf("LowerValue(%d) of %v returns false", k, row)
		}
		folds = append(folds, n)
	}
	hops, ok := impl.HopNumbers(k, items, size, hop)
	if !ok || !slices.Equal(hops, want) || !slices.Equal(hops, folds) {
		t.Fatalf("HopNumbers(%d, %v, %d, %d) = %v, %v, not %v", k, items, size, hop, hops, ok, want)
	}
	panes, ok := impl.PaneNumbers(k, items, size, hop)
	if !ok || !slices.Equal(panes, hops) {
		t.Fatalf("PaneNumbers(%d, %v, %d, %d) = %v, %v, not %v", k, items, size, hop, panes, ok, hops)
	}
	if n, ok := impl.HopCount(len(items), size, hop); !ok || n != len(want) {
		t.Fatalf("HopCount(%d, %d, %d) = %d, %v, not %d", len(items), size, hop, n, ok, len(want))
	}
	if !slices.Equal(items, before) {
		t.Fatalf("%v has become %v", before, items)
	}
}

func checkPanes(t *testing.T, k int, items []int, size int) {
	t.Helper()
	before := slices.Clone(items)
	var want []impl.Value
	for _, row := range hopRows(items, size, size) {
		want = append(want, direct(k, row))
	}
	got, ok := impl.PanesOf(k, items, size)
	if !ok || !slices.Equal(got, want) {
		t.Fatalf("PanesOf(%d, %v, %d) = %v, %v, not %v", k, items, size, got, ok, want)
	}
	if !slices.Equal(items, before) {
		t.Fatalf("%v has become %v", before, items)
	}
}

// checkCounts checks what HopCount and PaneCosts return.
func checkCounts(t *testing.T, items, size, hop, count, single, panes int) {
	t.Helper()
	if n, ok := impl.HopCount(items, size, hop); !ok || n != count {
		t.Fatalf("HopCount(%d, %d, %d) = %d, %v, not %d", items, size, hop, n, ok, count)
	}
	a, b, ok := impl.PaneCosts(items, size, hop)
	if !ok || a != single || b != panes {
		t.Fatalf("PaneCosts(%d, %d, %d) = %d, %d, %v, not %d, %d", items, size, hop, a, b, ok, single, panes)
	}
}

func rejectHops(t *testing.T, k int, items []int, size, hop int) {
	t.Helper()
	if got, ok := impl.HopNumbers(k, items, size, hop); ok || len(got) != 0 {
		t.Errorf("HopNumbers(%d, %v, %d, %d) = %v, %v", k, items, size, hop, got, ok)
	}
	if got, ok := impl.PaneNumbers(k, items, size, hop); ok || len(got) != 0 {
		t.Errorf("PaneNumbers(%d, %v, %d, %d) = %v, %v", k, items, size, hop, got, ok)
	}
}

func rejectPanes(t *testing.T, k int, items []int, size int) {
	t.Helper()
	if got, ok := impl.PanesOf(k, items, size); ok || len(got) != 0 {
		t.Errorf("PanesOf(%d, %v, %d) = %v, %v", k, items, size, got, ok)
	}
}

func rejectCounts(t *testing.T, items, size, hop int) {
	t.Helper()
	if n, ok := impl.HopCount(items, size, hop); ok || n != 0 {
		t.Errorf("HopCount(%d, %d, %d) = %d, %v", items, size, hop, n, ok)
	}
	if a, b, ok := impl.PaneCosts(items, size, hop); ok || a != 0 || b != 0 {
		t.Errorf("PaneCosts(%d, %d, %d) = %d, %d, %v", items, size, hop, a, b, ok)
	}
}

// TestPromise5Short: all short lists of three items, with windows and hops up to
// some that are longer than the lists.
func TestPromise5Short(t *testing.T) {
	lists := [][]int{nil}
	for next := 0; next < len(lists); next++ {
		items := lists[next]
		for k := 1; k <= 10; k++ {
			for size := 1; size <= 7; size++ {
				checkPanes(t, k, items, size)
				for hop := 1; hop <= 7; hop++ {
					checkHops(t, k, items, size, hop)
				}
			}
		}
		if len(items) == 5 {
			continue
		}
		for _, n := range []int{7, 30, 96} {
			lists = append(lists, append(slices.Clone(items), n))
		}
	}
}

// TestPromise5Long: each size with each hop, for up to 60 items.
func TestPromise5Long(t *testing.T) {
	plain := directWindow(pushes(60))
	// Items with ties, next to each other and apart.
	tied := make([]int, 60)
	for i := range tied {
		tied[i] = 96 - i*i/3%11
	}
	for _, items := range [][]int{plain, plain[:59], plain[:48], plain[:31], tied, tied[:53]} {
		for k := 1; k <= 10; k++ {
			for size := 1; size <= 60; size++ {
				checkPanes(t, k, items, size)
				for hop := 1; hop <= 60; hop++ {
					checkHops(t, k, items, size, hop)
				}
			}
		}
	}
}

// TestPromise5Order has numbers by hand: windows of two panes of two items, whose
// order matters for five of the kinds, and an item that is in no window.
func TestPromise5Order(t *testing.T) {
	items := []int{9, 1, 5, 7, 2, 6, 8}
	wants := [][]int{{}, {22, 20}, {4, 4}, {1, 2}, {9, 7}, {9, 5}, {7, 6}, {5, 5}, {85, 75}, {2, 2}, {0, 1}}
	for k := 1; k <= 10; k++ {
		checkHops(t, k, items, 4, 2)
		if got, ok := impl.PaneNumbers(k, items, 4, 2); !ok || !slices.Equal(got, wants[k]) {
			t.Errorf("PaneNumbers(%d) = %v, %v, not %v", k, got, ok, wants[k])
		}
	}
	panes, ok := impl.PanesOf(impl.KindMap, items, 2)
	// The maps of 9 and 1, of 5 and 7, and of 2 and 6; none of 8 alone.
	if want := []impl.Value{value(2, 19, 0), value(48, 47, 0), value(21, 20, 0)}; !ok || !slices.Equal(panes, want) {
		t.Errorf("PanesOf = %v, %v, not %v", panes, ok, want)
	}
}

// TestHopExamples has sums of the items from 0 to 11 by hand.
func TestHopExamples(t *testing.T) {
	items := []int{0, 1, 2, 3, 4, 5, 6, 7, 8, 9, 10, 11}
	cases := []struct {
		size, hop int
		want      []int
	}{
		{6, 4, []int{15, 39}},
		// Sizes without a common divisor, whose panes are single items.
		{7, 5, []int{21, 56}},
		{3, 2, []int{3, 9, 15, 21, 27}},
		{5, 3, []int{10, 25, 40}},
		// A hop greater than the size, which leaves items out.
		{2, 5, []int{1, 11, 21}},
		{2, 6, []int{1, 13}},
		{4, 6, []int{6, 30}},
		{4, 8, []int{6, 38}},
		{3, 60, []int{3}},
		// A hop as great as the size.
		{5, 5, []int{10, 35}},
		{4, 4, []int{6, 22, 38}},
		{12, 12, []int{66}},
		{1, 1, items},
		// More items in a window than there are.
		{13, 1, nil},
		{14, 7, nil},
		{60, 60, nil},
	}
	for _, c := range cases {
		checkHops(t, impl.KindSum, items, c.size, c.hop)
		if got, ok := impl.PaneNumbers(impl.KindSum, items, c.size, c.hop); !ok || !slices.Equal(got, c.want) {
			t.Errorf("PaneNumbers of size %d, %d apart, = %v, %v, not %v", c.size, c.hop, got, ok, c.want)
		}
	}
}

// TestHopLimits: windows of one and of all 60 items, 1 and 60 apart.
func TestHopLimits(t *testing.T) {
	items := directWindow(pushes(60))
	for k := 1; k <= 10; k++ {
		for _, size := range []int{1, 60} {
			for _, hop := range []int{1, 60} {
				var want []int
				for from := 0; from+size <= 60; from += hop {
					want = append(want, directNumber(k, items[from:from+size]))
				}
				got, ok := impl.PaneNumbers(k, items, size, hop)
				if !ok || !slices.Equal(got, want) {
					t.Errorf("PaneNumbers(%d) of size %d, %d apart, = %v, %v, not %v", k, size, hop, got, ok, want)
				}
				checkHops(t, k, items, size, hop)
				checkHops(t, k, items[:59], size, hop)
				checkHops(t, k, items[:1], size, hop)
			}
			checkPanes(t, k, items, size)
			checkPanes(t, k, items[:59], size)
			checkPanes(t, k, items[:1], size)
		}
	}
	checkCounts(t, 60, 1, 1, 60, 60, 120)
	checkCounts(t, 60, 1, 60, 1, 1, 61)
	checkCounts(t, 60, 60, 1, 1, 60, 120)
	checkCounts(t, 60, 60, 60, 1, 60, 61)
	checkCounts(t, 59, 60, 60, 0, 0, 0)
}

// TestHopsFew: no items, and fewer of them than a window has, make no windows.
func TestHopsFew(t *testing.T) {
	items := directWindow(pushes(60))
	for k := 1; k <= 10; k++ {
		for size := 1; size <= 60; size++ {
			for _, list := range [][]int{nil, {}, items[:size-1]} {
				for hop := 1; hop <= 60; hop++ {
					hops, fine := impl.HopNumbers(k, list, size, hop)
					panes, ok := impl.PaneNumbers(k, list, size, hop)
					if !fine || !ok || len(hops) != 0 || len(panes) != 0 {
						t.Fatalf("windows of size %d, %d apart, over %v: %v, %v, %v, %v", size, hop, list, hops, fine, panes, ok)
					}
				}
				if panes, ok := impl.PanesOf(k, list, size); !ok || len(panes) != 0 {
					t.Fatalf("PanesOf(%d, %v, %d) = %v, %v", k, list, size, panes, ok)
				}
			}
		}
	}
}

// TestPaneExamples has panes by hand, the last items left out.
func TestPaneExamples(t *testing.T) {
	items := []int{3, 7, 7, 1, 9}
	for size, want := range map[int][]int{1: items, 2: {10, 8}, 3: {17}, 4: {18}, 5: {27}, 6: {}, 60: {}} {
		if got, ok := impl.PanesOf(impl.KindSum, items, size); !ok || !slices.Equal(got, sums(want...)) {
			t.Errorf("PanesOf of size %d = %v, %v, not %v", size, got, ok, want)
		}
	}
	rises, ok := impl.PanesOf(impl.KindRise, items, 2)
	if want := []impl.Value{value(3, 7, 2), value(7, 1, 1)}; !ok || !slices.Equal(rises, want) {
		t.Errorf("PanesOf = %v, %v, not %v", rises, ok, want)
	}
	places, ok := impl.PanesOf(impl.KindPlace, items, 2)
	if want := []impl.Value{value(7, 1, 2), value(7, 0, 2)}; !ok || !slices.Equal(places, want) {
		t.Errorf("PanesOf = %v, %v, not %v", places, ok, want)
	}
}

// TestPaneCosts: each number of items with each size and hop, counted one by one.
func TestPaneCosts(t *testing.T) {
	for items := 0; items <= 60; items++ {
		for size := 1; size <= 60; size++ {
			for hop := 1; hop <= 60; hop++ {
				count, single, panes := plainCosts(items, size, hop)
				checkCounts(t, items, size, hop, count, single, panes)
			}
		}
	}
}

// TestPaneCostExamples has costs by hand.
func TestPaneCostExamples(t *testing.T) {
	// The document's example, and one window less or more.
	checkCounts(t, 12, 6, 4, 2, 12, 18)
	checkCounts(t, 9, 6, 4, 1, 6, 11)
	checkCounts(t, 14, 6, 4, 3, 18, 23)
	// Panes that no window has count, and items behind the last pane do not.
	checkCounts(t, 5, 6, 4, 0, 0, 4)
	checkCounts(t, 13, 6, 4, 2, 12, 18)
	checkCounts(t, 12, 2, 6, 2, 4, 14)
	checkCounts(t, 12, 2, 5, 3, 6, 18)
	checkCounts(t, 12, 7, 5, 2, 14, 26)
	checkCounts(t, 0, 6, 4, 0, 0, 0)
	checkCounts(t, 1, 6, 4, 0, 0, 0)
}

func TestGcdOf(t *testing.T) {
	check := func(a, b, want int) {
		t.Helper()
		if got, ok := impl.GcdOf(a, b); !ok || got != want {
			t.Fatalf("GcdOf(%d, %d) = %d, %v, not %d", a, b, got, ok, want)
		}
		if got, ok := impl.GcdOf(b, a); !ok || got != want {
			t.Fatalf("GcdOf(%d, %d) = %d, %v, not %d", b, a, got, ok, want)
		}
	}
	for a := 1; a <= 150; a++ {
		for b := 1; b <= a; b++ {
			check(a, b, plainGcd(a, b))
		}
		check(a, 1, 1)
		check(a, 1000000, plainGcd(a, 1000000))
	}
	check(1, 1, 1)
	check(1, 1000000, 1)
	check(1000000, 1000000, 1000000)
	check(999999, 1000000, 1)
	check(500000, 1000000, 500000)
	check(999998, 1000000, 2)
	check(524288, 1000000, 64)
	check(531441, 999999, 27)
	// Two numbers of Fibonacci take the most divisions.
	check(514229, 832040, 1)
	// Two primes.
	check(999979, 999983, 1)
}

func TestGcdInvalid(t *testing.T) {
	for _, bad := range []int{math.MinInt, math.MinInt + 1, -1000000, -6, -1, 0, 1000001, 1000002, math.MaxInt - 1, math.MaxInt} {
		others := []int{1, 2, 6, 1000000, bad, -bad, 0, -1, 1000001}
		for _, other := range others {
			for _, pair := range [][2]int{{bad, other}, {other, bad}} {
				if got, ok := impl.GcdOf(pair[0], pair[1]); ok || got != 0 {
					t.Errorf("GcdOf(%d, %d) = %d, %v", pair[0], pair[1], got, ok)
				}
			}
		}
	}
}

// TestHopSizesInvalid: sizes and hops past the limits are rejected, also where
// there would be no window.
func TestHopSizesInvalid(t *testing.T) {
	lists := [][]int{nil, {1}, {1, 2, 3}, directWindow(pushes(60))}
	for _, bad := range notSizes {
		for _, items := range lists {
			rejectPanes(t, impl.KindSum, items, bad)
			rejectPanes(t, impl.KindMap, items, bad)
			for _, good := range []int{1, 2, 59, 60, bad} {
				for k := 1; k <= 10; k++ {
					rejectHops(t, k, items, bad, good)
					rejectHops(t, k, items, good, bad)
				}
				rejectCounts(t, len(items), bad, good)
				rejectCounts(t, len(items), good, bad)
			}
		}
	}
}

// TestHopCountsInvalid: numbers of items that no list has.
func TestHopCountsInvalid(t *testing.T) {
	for _, items := range notCounts {
		for _, size := range []int{0, 1, 2, 59, 60, 61} {
			for _, hop := range []int{0, 1, 2, 59, 60, 61} {
				rejectCounts(t, items, size, hop)
			}
		}
	}
}

func TestHopKindsInvalid(t *testing.T) {
	for _, k := range notKinds {
		for _, items := range [][]int{nil, {1}, {1, 2, 3, 4}} {
			for _, size := range []int{1, 2, 60} {
				rejectPanes(t, k, items, size)
				rejectHops(t, k, items, size, 1)
				rejectHops(t, k, items, size, 60)
			}
		}
	}
}

// TestHopItemsInvalid: too many items, and what is no item, also where no window and no pane has it.
func TestHopItemsInvalid(t *testing.T) {
	for k := 1; k <= 10; k++ {
		for _, size := range []int{1, 2, 4, 60} {
			for _, many := range []int{61, 62, 1000} {
				rejectPanes(t, k, make([]int, many), size)
				rejectHops(t, k, make([]int, many), size, 1)
				rejectHops(t, k, make([]int, many), size, 60)
			}
			for _, n := range notItems {
				for _, items := range [][]int{{n}, {n, 1, 2}, {1, n, 2}, {1, 2, n}, {1, 2, 3, 4, n}} {
					rejectPanes(t, k, items, size)
					rejectHops(t, k, items, size, 1)
					rejectHops(t, k, items, size, 2)
					rejectHops(t, k, items, size, 60)
				}
			}
		}
	}
}

// roomyItems are items in memory of their own, with spare capacity that is not empty.
func roomyItems(items []int) []int {
	roomy := slices.Repeat([]int{-7}, len(items)+70)
	copy(roomy, items)
	return roomy[:len(items)]
}

// TestPanesOwn: results have memory of their own in every call, and items keep
// theirs, also what is beyond their length.
func TestPanesOwn(t *testing.T) {
	items := directWindow(pushes(60))
	for k := 1; k <= 10; k++ {
		for _, count := range []int{0, 1, 2, 12, 59, 60} {
			for _, size := range []int{1, 2, 3, 6, 60} {
				checkPanesOwn(t, k, items[:count], size)
				for _, hop := range []int{1, 2, 4, 6, 60} {
					checkHopsOwn(t, k, items[:count], size, hop, impl.HopNumbers)
					checkHopsOwn(t, k, items[:count], size, hop, impl.PaneNumbers)
				}
			}
		}
	}
}

func checkHopsOwn(t *testing.T, k int, list []int, size, hop int, numbersOf func(k int, items []int, size int, hop int) ([]int, bool)) {
	t.Helper()
	items := roomyItems(list)
	before := slices.Clone(items[:cap(items)])
	first, _ := numbersOf(k, items, size, hop)
	second, _ := numbersOf(k, items, size, hop)
	want := slices.Clone(first)
	spoilNumbers(first)
	if !slices.Equal(items[:cap(items)], before) {
		t.Fatalf("kind %d, size %d, hop %d: %v is written on", k, size, hop, list)
	}
	spoilNumbers(items)
	if !slices.Equal(second, want) {
		t.Fatalf("kind %d, size %d, hop %d: the numbers of %v share memory", k, size, hop, list)
	}
}

func checkPanesOwn(t *testing.T, k int, list []int, size int) {
	t.Helper()
	items := roomyItems(list)
	before := slices.Clone(items[:cap(items)])
	first, _ := impl.PanesOf(k, items, size)
	second, _ := impl.PanesOf(k, items, size)
	want := slices.Clone(first)
	first = first[:cap(first)]
	for i := range first {
		first[i] = value(-9, -9, -9)
	}
	if !slices.Equal(items[:cap(items)], before) {
		t.Fatalf("kind %d, size %d: %v is written on", k, size, list)
	}
	spoilNumbers(items)
	if !slices.Equal(second, want) {
		t.Fatalf("kind %d, size %d: the panes of %v share memory", k, size, list)
	}
}
