package tests

import (
	"math"
	"slices"
	"testing"

	"loop.example/windowaggregates/impl"
)

// notKinds are numbers that are no kind.
var notKinds = []int{math.MinInt, -1, 0, 11, 12, math.MaxInt}

// notItems are numbers that are no item.
var notItems = []int{math.MinInt, -1, 97, 98, math.MaxInt}

// rows are items with ties, rises, falls and limits, among them none at all.
var rows = [][]int{
	{}, {0}, {5}, {96}, {3, 7}, {7, 3}, {7, 7}, {0, 96}, {96, 0}, {96, 96},
	{3, 7, 7, 1}, {1, 1, 2}, {8, 17, 26}, {9, 50, 50, 9, 60}, {96, 95, 96, 1, 2, 3},
}

func value(x, y, z int) impl.Value {
	return impl.Value{X: x, Y: y, Z: z}
}

func mustFold(t *testing.T, k int, items []int) impl.Value {
	t.Helper()
	v, ok := impl.FoldItems(k, items)
	if !ok {
		t.Fatalf("FoldItems(%d, %v) returns false", k, items)
	}
	return v
}

// direct is the aggregate of items by the table's words, without any combination.
func direct(k int, items []int) impl.Value {
	sum, rises := 0, 0
	for i, n := range items {
		sum += n
		if i > 0 && n > items[i-1] {
			rises++
		}
	}
	if k == impl.KindMap {
		at0, at1 := 0, 1
		for _, n := range items {
			at0 = (at0*(n%9+1) + n) % 97
			at1 = (at1*(n%9+1) + n) % 97
		}
		return value((at1-at0+97)%97, at0, 0)
	}
	if len(items) == 0 {
		return impl.Value{}
	}
	first, last, count := items[0], items[len(items)-1], len(items)
	switch k {
	case impl.KindSum:
		return value(sum%97, 0, 0)
	case impl.KindCount:
		return value(count, 0, 0)
	case impl.KindLeast:
		return value(slices.Min(items), 1, 0)
	case impl.KindMost:
		return value(slices.Max(items), 1, 0)
	case impl.KindFirst:
		return value(first, 1, 0)
	case impl.KindLast:
		return value(last, 1, 0)
	case impl.KindMean:
		return value(sum, count, 0)
	case impl.KindRise:
		return value(first, last, rises+1)
	}
	most := slices.Max(items)
	return value(most, slices.Index(items, most), count)
}

// samples are valid aggregates of a kind: of rows, and at the limits.
func samples(t *testing.T, k int) []impl.Value {
	t.Helper()
	var all []impl.Value
	for _, row := range rows {
		all = append(all, mustFold(t, k, row))
	}
	switch k {
	case impl.KindCount:
		all = append(all, value(499999, 0, 0), value(500000, 0, 0), value(500001, 0, 0), value(1000000, 0, 0))
	case impl.KindMean:
		all = append(all, value(0, 5000, 0), value(480000, 5000, 0), value(7, 5001, 0), value(960000, 10000, 0))
	case impl.KindMap:
		all = append(all, value(96, 96, 0), value(1, 96, 0), value(96, 0, 0), value(50, 51, 0))
	case impl.KindRise:
		all = append(all, value(0, 96, 500000), value(96, 0, 500000), value(5, 6, 500001), value(5, 6, 1000000))
	case impl.KindPlace:
		all = append(all, value(0, 499999, 500000), value(96, 0, 500000), value(50, 500000, 500001), value(50, 3, 1000000))
	}
	return all
}

func TestConstants(t *testing.T) {
	kinds := []int{impl.KindSum, impl.KindCount, impl.KindLeast, impl.KindMost, impl.KindFirst, impl.KindLast, impl.KindMean, impl.KindMap, impl.KindRise, impl.KindPlace}
	for i, k := range kinds {
		if k != i+1 {
			t.Errorf("the constant of the kind %d is %d", i+1, k)
		}
	}
	if impl.MaxItem != 96 || impl.MaxSize != 60 {
		t.Errorf("MaxItem is %d and MaxSize %d", impl.MaxItem, impl.MaxSize)
	}
}

func TestKindValid(t *testing.T) {
	for k := 1; k <= 10; k++ {
		if !impl.KindValid(k) {
			t.Errorf("KindValid(%d) is false", k)
		}
	}
	for _, k := range notKinds {
		if impl.KindValid(k) {
			t.Errorf("KindValid(%d) is true", k)
		}
	}
}

// TestPromise1Grouping: for all valid aggregates, also those whose combination
// is past a limit, both groupings of three have the same result.
func TestPromise1Grouping(t *testing.T) {
	for k := 1; k <= 10; k++ {
		all := samples(t, k)
		for _, a := range all {
			for _, b := range all {
				ab, abOK := impl.CombineValues(k, a, b)
				for _, c := range all {
					var left, right impl.Value
					leftOK, rightOK := false, false
					if abOK {
						left, leftOK = impl.CombineValues(k, ab, c)
					}
					if bc, ok := impl.CombineValues(k, b, c); ok {
						right, rightOK = impl.CombineValues(k, a, bc)
					}
					if left != right || leftOK != rightOK {
						t.Fatalf("kind %d: %v, %v, %v have %v, %v and %v, %v", k, a, b, c, left, leftOK, right, rightOK)
					}
				}
			}
		}
	}
}

// TestPromise1Parts: wherever rows are divided, the parts have the aggregate of all.
func TestPromise1Parts(t *testing.T) {
	for k := 1; k <= 10; k++ {
		for _, a := range rows {
			for _, b := range rows {
				items := slices.Concat(a, b)
				got, ok := impl.CombineValues(k, mustFold(t, k, a), mustFold(t, k, b))
				if want := direct(k, items); !ok || got != want {
					t.Errorf("kind %d: %v and %v have %v, %v, not %v", k, a, b, got, ok, want)
				}
				if got := mustFold(t, k, items); got != direct(k, items) {
					t.Errorf("FoldItems(%d, %v) = %v, not %v", k, items, got, direct(k, items))
				}
			}
		}
	}
}

func TestUnitOf(t *testing.T) {
	for k := 1; k <= 10; k++ {
		want := impl.Value{}
		if k == impl.KindMap {
			want.X = 1
		}
		unit, ok := impl.UnitOf(k)
		if !ok || unit != want {
			t.Errorf("UnitOf(%d) = %v, %v", k, unit, ok)
		}
		for _, v := range samples(t, k) {
			before, ok1 := impl.CombineValues(k, unit, v)
			behind, ok2 := impl.CombineValues(k, v, unit)
			if !ok1 || !ok2 || before != v || behind != v {
				t.Errorf("kind %d: no items and %v have %v, %v and %v, %v", k, v, before, ok1, behind, ok2)
			}
		}
	}
	for _, k := range notKinds {
		if v, ok := impl.UnitOf(k); ok || v != (impl.Value{}) {
			t.Errorf("UnitOf(%d) = %v, %v", k, v, ok)
		}
	}
}

func TestLiftItem(t *testing.T) {
	for k := 1; k <= 10; k++ {
		for n := 0; n <= 96; n++ {
			if v, ok := impl.LiftItem(k, n); !ok || v != direct(k, []int{n}) || !impl.ValueValid(k, v) {
				t.Errorf("LiftItem(%d, %d) = %v, %v", k, n, v, ok)
			}
		}
		for _, n := range notItems {
			if v, ok := impl.LiftItem(k, n); ok || v != (impl.Value{}) {
				t.Errorf("LiftItem(%d, %d) = %v, %v", k, n, v, ok)
			}
		}
	}
	for _, k := range notKinds {
		if v, ok := impl.LiftItem(k, 5); ok || v != (impl.Value{}) {
			t.Errorf("LiftItem(%d, 5) = %v, %v", k, v, ok)
		}
	}
	want := []impl.Value{{}, {X: 26}, {X: 1}, {X: 26, Y: 1}, {X: 26, Y: 1}, {X: 26, Y: 1}, {X: 26, Y: 1}, {X: 26, Y: 1}, {X: 9, Y: 26}, {X: 26, Y: 26, Z: 1}, {X: 26, Z: 1}}
	for k := 1; k <= 10; k++ {
		if v, _ := impl.LiftItem(k, 26); v != want[k] {
			t.Errorf("LiftItem(%d, 26) = %v", k, v)
		}
	}
}

func TestValueValid(t *testing.T) {
	limits := map[int][2][]impl.Value{ // those that are valid, and those that are not
		impl.KindSum: {
			{{}, value(96, 0, 0)},
			{value(97, 0, 0), value(-1, 0, 0), value(1, 1, 0), value(1, 0, 1), value(1, -1, 0)},
		},
		impl.KindCount: {
			{{}, value(1000000, 0, 0)},
			{value(1000001, 0, 0), value(-1, 0, 0), value(1, 1, 0), value(1, 0, 1)},
		},
		impl.KindMean: {
			{{}, value(0, 1, 0), value(96, 1, 0), value(960000, 10000, 0), value(0, 10000, 0)},
			{value(1, 0, 0), value(97, 1, 0), value(-1, 1, 0), value(0, -1, 0), value(-96, -1, 0), value(0, 10001, 0), value(960001, 10000, 0), value(0, 0, 1), value(5, 1, 1), value(1, math.MaxInt, 0)},
		},
		impl.KindMap: {
			{value(1, 0, 0), value(96, 96, 0), value(1, 96, 0)},
			{{}, value(0, 5, 0), value(97, 0, 0), value(-1, 0, 0), value(1, 97, 0), value(1, -1, 0), value(1, 0, 1)},
		},
		impl.KindRise: {
			{{}, value(0, 0, 1), value(96, 96, 1000000), value(3, 5, 1), value(0, 96, 2)},
			{value(0, 0, -1), value(1, 0, 0), value(0, 1, 0), value(97, 0, 1), value(-1, 0, 1), value(0, 97, 1), value(0, -1, 1), value(0, 0, 1000001)},
		},
		impl.KindPlace: {
			{{}, value(0, 0, 1), value(96, 999999, 1000000), value(5, 1, 2)},
			{value(0, 0, -1), value(1, 0, 0), value(0, 1, 0), value(5, 1, 1), value(5, 2, 2), value(5, -1, 2), value(97, 0, 1), value(-1, 0, 1), value(0, 0, 1000001)},
		},
	}
	for k := impl.KindLeast; k <= impl.KindLast; k++ {
		limits[k] = [2][]impl.Value{
			{{}, value(0, 1, 0), value(96, 1, 0)},
			{value(1, 0, 0), value(97, 1, 0), value(-1, 1, 0), value(5, 2, 0), value(5, -1, 0), value(0, 0, 1), value(5, 1, 1)},
		}
	}
	for k, both := range limits {
		for _, v := range both[0] {
			if !impl.ValueValid(k, v) {
				t.Errorf("ValueValid(%d, %v) is false", k, v)
			}
		}
		for _, v := range both[1] {
			if impl.ValueValid(k, v) {
				t.Errorf("ValueValid(%d, %v) is true", k, v)
			}
			rejects(t, k, v)
		}
	}
	for _, k := range notKinds {
		if impl.ValueValid(k, impl.Value{}) || impl.ValueValid(k, value(1, 0, 0)) {
			t.Errorf("ValueValid(%d) is true", k)
		}
		rejects(t, k, impl.Value{})
	}
}

// rejects checks that no function of aggregates accepts v, on either side.
func rejects(t *testing.T, k int, v impl.Value) {
	t.Helper()
	good, _ := impl.UnitOf(k)
	check := func(name string, got impl.Value, ok bool) {
		t.Helper()
		if ok || got != (impl.Value{}) {
			t.Errorf("%s of the kind %d accepts %v: %v, %v", name, k, v, got, ok)
		}
	}
	for _, pair := range [][2]impl.Value{{v, good}, {good, v}, {v, v}} {
		got, ok := impl.CombineValues(k, pair[0], pair[1])
		check("CombineValues", got, ok)
		got, ok = impl.RemoveFirst(k, pair[0], pair[1])
		check("RemoveFirst", got, ok)
	}
	n, ok := impl.LowerValue(k, v)
	check("LowerValue", value(n, 0, 0), ok)
}

func TestCombineValues(t *testing.T) {
	cases := []struct {
		k          int
		a, b, want impl.Value
	}{
		{impl.KindSum, value(96, 0, 0), value(96, 0, 0), value(95, 0, 0)},
		{impl.KindSum, value(50, 0, 0), value(47, 0, 0), value(0, 0, 0)},
		{impl.KindCount, value(999999, 0, 0), value(1, 0, 0), value(1000000, 0, 0)},
		{impl.KindMean, value(96, 1, 0), value(5, 3, 0), value(101, 4, 0)},
		{impl.KindMean, value(0, 9999, 0), value(96, 1, 0), value(96, 10000, 0)},
		{impl.KindMap, value(4, 3, 0), value(2, 10, 0), value(8, 16, 0)},
		{impl.KindMap, value(96, 96, 0), value(96, 96, 0), value(1, 0, 0)},
		{impl.KindFirst, value(9, 1, 0), value(2, 1, 0), value(9, 1, 0)},
		{impl.KindLast, value(9, 1, 0), value(2, 1, 0), value(2, 1, 0)},
		{impl.KindLeast, value(9, 1, 0), value(2, 1, 0), value(2, 1, 0)},
		{impl.KindMost, value(9, 1, 0), value(2, 1, 0), value(9, 1, 0)},
		{impl.KindRise, value(3, 7, 2), value(7, 1, 1), value(3, 1, 2)},
		{impl.KindRise, value(3, 7, 2), value(8, 1, 1), value(3, 1, 3)},
		{impl.KindRise, value(5, 5, 1), value(5, 5, 1000000), value(5, 5, 1000000)},
		{impl.KindPlace, value(7, 1, 2), value(7, 0, 2), value(7, 1, 4)},
		{impl.KindPlace, value(7, 1, 2), value(8, 1, 2), value(8, 3, 4)},
		{impl.KindPlace, value(1, 0, 999999), value(2, 0, 1), value(2, 999999, 1000000)},
	}
	for _, c := range cases {
		if got, ok := impl.CombineValues(c.k, c.a, c.b); !ok || got != c.want {
			t.Errorf("CombineValues(%d, %v, %v) = %v, %v, not %v", c.k, c.a, c.b, got, ok, c.want)
		}
	}
	past := []struct {
		k    int
		a, b impl.Value
	}{ // valid arguments whose result is not valid
		{impl.KindCount, value(1000000, 0, 0), value(1, 0, 0)},
		{impl.KindMean, value(0, 10000, 0), value(0, 1, 0)},
		{impl.KindRise, value(1, 2, 1000000), value(3, 3, 1)},
		{impl.KindPlace, value(1, 0, 1000000), value(0, 0, 1)},
	}
	for _, c := range past {
		if got, ok := impl.CombineValues(c.k, c.a, c.b); ok || got != (impl.Value{}) {
			t.Errorf("CombineValues(%d, %v, %v) = %v, %v", c.k, c.a, c.b, got, ok)
		}
	}
}

func TestLowerValue(t *testing.T) {
	cases := []struct {
		k    int
		v    impl.Value
		want int
	}{
		{impl.KindSum, value(0, 0, 0), 0}, {impl.KindSum, value(96, 0, 0), 96},
		{impl.KindCount, value(0, 0, 0), 0}, {impl.KindCount, value(1000000, 0, 0), 1000000},
		{impl.KindLeast, value(0, 1, 0), 0}, {impl.KindMost, value(96, 1, 0), 96},
		{impl.KindFirst, value(7, 1, 0), 7}, {impl.KindLast, value(8, 1, 0), 8},
		{impl.KindMean, value(18, 4, 0), 4}, {impl.KindMean, value(19, 4, 0), 4}, {impl.KindMean, value(20, 4, 0), 5},
		{impl.KindMean, value(0, 3, 0), 0}, {impl.KindMean, value(2, 3, 0), 0}, {impl.KindMean, value(960000, 10000, 0), 96},
		{impl.KindMap, value(1, 0, 0), 1}, {impl.KindMap, value(96, 96, 0), 95}, {impl.KindMap, value(50, 47, 0), 0}, {impl.KindMap, value(50, 46, 0), 96},
		{impl.KindRise, value(0, 0, 0), 0}, {impl.KindRise, value(5, 5, 1), 0}, {impl.KindRise, value(5, 9, 1000000), 999999},
		{impl.KindPlace, value(9, 0, 1), 0}, {impl.KindPlace, value(9, 999999, 1000000), 999999},
	}
	for _, c := range cases {
		if n, ok := impl.LowerValue(c.k, c.v); !ok || n != c.want {
			t.Errorf("LowerValue(%d, %v) = %d, %v, not %d", c.k, c.v, n, ok, c.want)
		}
	}
	for _, k := range []int{3, 4, 5, 6, 7, 10} {
		if n, ok := impl.LowerValue(k, impl.Value{}); ok || n != 0 {
			t.Errorf("LowerValue(%d) of no items = %d, %v", k, n, ok)
		}
	}
}

func TestCommutes(t *testing.T) {
	want := []int{impl.KindSum, impl.KindCount, impl.KindLeast, impl.KindMost, impl.KindMean}
	for k := 1; k <= 10; k++ {
		if impl.Commutes(k) != slices.Contains(want, k) {
			t.Errorf("Commutes(%d) = %v", k, impl.Commutes(k))
		}
		same := true
		for _, a := range samples(t, k) {
			for _, b := range samples(t, k) {
				ab, ok1 := impl.CombineValues(k, a, b)
				ba, ok2 := impl.CombineValues(k, b, a)
				same = same && ab == ba && ok1 == ok2
			}
		}
		if same != impl.Commutes(k) {
			t.Errorf("kind %d: aggregates commute: %v", k, same)
		}
	}
	for _, k := range notKinds {
		if impl.Commutes(k) {
			t.Errorf("Commutes(%d) is true", k)
		}
	}
}

func TestRemoveFirst(t *testing.T) {
	for k := 1; k <= 10; k++ {
		can := k == impl.KindSum || k == impl.KindCount || k == impl.KindMean || k == impl.KindMap
		for _, a := range samples(t, k) {
			for _, b := range samples(t, k) {
				whole, ok := impl.CombineValues(k, a, b)
				if !ok {
					continue
				}
				got, ok := impl.RemoveFirst(k, a, whole)
				if can && (!ok || got != b) || !can && (ok || got != (impl.Value{})) {
					t.Errorf("RemoveFirst(%d, %v, %v) = %v, %v", k, a, whole, got, ok)
				}
			}
		}
	}
}

// TestRemoveFirstAlways: any sum or map can be taken from any other one.
func TestRemoveFirstAlways(t *testing.T) {
	check := func(k int, a, whole impl.Value) {
		t.Helper()
		rest, ok := impl.RemoveFirst(k, a, whole)
		if got, ok2 := impl.CombineValues(k, a, rest); !ok || !ok2 || got != whole {
			t.Errorf("RemoveFirst(%d, %v, %v) = %v, %v", k, a, whole, rest, ok)
		}
	}
	for x := 0; x <= 96; x++ {
		for y := 0; y <= 96; y++ {
			check(impl.KindSum, value(x, 0, 0), value(y, 0, 0))
			if x > 0 {
				check(impl.KindMap, value(x, y, 0), value(1, 0, 0))
				check(impl.KindMap, value(x, y, 0), value(96-y/2, y, 0))
			}
		}
	}
}

// TestRemoveFirstNothing: a whole that is too small, or whose rest would be no aggregate.
func TestRemoveFirstNothing(t *testing.T) {
	cases := []struct {
		k        int
		a, whole impl.Value
	}{
		{impl.KindCount, value(2, 0, 0), value(1, 0, 0)},
		{impl.KindMean, value(5, 2, 0), value(5, 1, 0)},
		{impl.KindMean, value(6, 1, 0), value(5, 2, 0)},
		{impl.KindMean, value(0, 1, 0), value(97, 2, 0)},
		{impl.KindMean, value(5, 2, 0), value(6, 2, 0)},
	}
	for _, c := range cases {
		if got, ok := impl.RemoveFirst(c.k, c.a, c.whole); ok || got != (impl.Value{}) {
			t.Errorf("RemoveFirst(%d, %v, %v) = %v, %v", c.k, c.a, c.whole, got, ok)
		}
	}
}

func TestFoldItems(t *testing.T) {
	long := make([]int, 60)
	for i := range long {
		long[i] = i * 37 % 97
	}
	for k := 1; k <= 10; k++ {
		unit, _ := impl.UnitOf(k)
		if v, ok := impl.FoldItems(k, nil); !ok || v != unit {
			t.Errorf("FoldItems(%d, nil) = %v, %v", k, v, ok)
		}
		items := slices.Clone(long)
		if v, ok := impl.FoldItems(k, items); !ok || v != direct(k, long) || !impl.ValueValid(k, v) {
			t.Errorf("FoldItems(%d) of 60 items = %v, %v, not %v", k, v, ok, direct(k, long))
		}
		if !slices.Equal(items, long) {
			t.Errorf("FoldItems(%d) changes its argument", k)
		}
		if v, ok := impl.FoldItems(k, append(items, 1)); ok || v != (impl.Value{}) {
			t.Errorf("FoldItems(%d) of 61 items = %v, %v", k, v, ok)
		}
		for _, n := range notItems {
			for _, items := range [][]int{{n}, {n, 1, 2}, {1, n, 2}, {1, 2, n}} {
				if v, ok := impl.FoldItems(k, items); ok || v != (impl.Value{}) {
					t.Errorf("FoldItems(%d, %v) = %v, %v", k, items, v, ok)
				}
			}
		}
	}
	for _, k := range notKinds {
		for _, items := range [][]int{nil, {1}} {
			if v, ok := impl.FoldItems(k, items); ok || v != (impl.Value{}) {
				t.Errorf("FoldItems(%d, %v) = %v, %v", k, items, v, ok)
			}
		}
	}
}

// TestFoldExample has the document's example.
func TestFoldExample(t *testing.T) {
	items := []int{3, 7, 7, 1}
	if v := mustFold(t, impl.KindRise, items); v != value(3, 1, 2) {
		t.Errorf("the KindRise of %v is %v", items, v)
	}
	if v := mustFold(t, impl.KindPlace, items); v != value(7, 1, 4) {
		t.Errorf("the KindPlace of %v is %v", items, v)
	}
}
