package tests

import (
	"math"
	"regexp"
	"slices"
	"strings"
	"testing"

	"loop.example/windowaggregates/impl"
)

func push(n int) impl.Op { return impl.Op{Push: true, Item: n} }

var take = impl.Op{}

// notSizes are numbers that are no size of a window, and not how far windows begin apart.
var notSizes = []int{math.MinInt, -60, -1, 0, 61, 62, math.MaxInt - 1, math.MaxInt}

// pushes are count changes that push items, none of them equal to the one before.
func pushes(count int) []impl.Op {
	var ops []impl.Op
	for i := range count {
		ops = append(ops, push(i*37%97))
	}
	return ops
}

// pairs are count changes that push an item and take it away, in turns.
func pairs(count int) []impl.Op {
	ops := make([]impl.Op, count)
	for i := 0; i < count; i += 2 {
		ops[i] = push(i % 97)
	}
	return ops
}

// directWindow is the items that came, without as many as went, in front: no queue is kept.
func directWindow(ops []impl.Op) []int {
	var came []int
	went := 0
	for _, op := range ops {
		if op.Push {
			came = append(came, op.Item)
		} else {
			went++
		}
	}
	return came[went:]
}

// directNumber is the number of items by the table's words, or -1.
func directNumber(k int, items []int) int {
	sum, rises, mapped := 0, 0, 1
	for i, n := range items {
		sum += n
		mapped = (mapped*(n%9+1) + n) % 97
		if i > 0 && n > items[i-1] {
			rises++
		}
	}
	switch k {
	case impl.KindSum:
		return sum % 97
	case impl.KindCount:
		return len(items)
	case impl.KindMap:
		return mapped
	case impl.KindRise:
		return rises
	}
	if len(items) == 0 {
		return -1
	}
	switch k {
	case impl.KindLeast:
		return slices.Min(items)
	case impl.KindMost:
		return slices.Max(items)
	case impl.KindFirst:
		return items[0]
	case impl.KindLast:
		return items[len(items)-1]
	case impl.KindMean:
		return sum / len(items)
	}
	return slices.Index(items, slices.Max(items))
}

// checkOps checks what all functions of changes return for valid ones.
func checkOps(t *testing.T, ops []impl.Op) {
	t.Helper()
	before := slices.Clone(ops)
	if !impl.OpsValid(ops) {
		t.Fatalf("OpsValid(%v) is false", ops)
	}
	if w, ok := impl.WindowAfter(ops); !ok || !slices.Equal(w, directWindow(ops)) {
		t.Fatalf("WindowAfter(%v) = %v, %v, not %v", ops, w, ok, directWindow(ops))
	}
	for k := 1; k <= 10; k++ {
		var want []int
		for i := range ops {
			want = append(want, directNumber(k, directWindow(ops[:i+1])))
		}
		if got, ok := impl.QueriesOf(k, ops); !ok || !slices.Equal(got, want) {
			t.Fatalf("QueriesOf(%d, %v) = %v, %v, not %v", k, ops, got, ok, want)
		}
	}
	text := impl.FormatOps(ops)
	if got, ok := impl.ParseOps(text); !ok || !slices.Equal(got, ops) {
		t.Fatalf("ParseOps(%q) = %v, %v, not %v", text, got, ok, ops)
	}
	if !slices.Equal(ops, before) {
		t.Fatalf("%v has become %v", before, ops)
	}
}

// rejectOps checks that no function of changes accepts ops.
func rejectOps(t *testing.T, ops []impl.Op) {
	t.Helper()
	if impl.OpsValid(ops) {
		t.Errorf("OpsValid(%v) is true", ops)
	}
	if w, ok := impl.WindowAfter(ops); ok || len(w) != 0 {
		t.Errorf("WindowAfter(%v) = %v, %v", ops, w, ok)
	}
	for k := 0; k <= 11; k++ {
		if n, ok := impl.QueriesOf(k, ops); ok || len(n) != 0 {
			t.Errorf("QueriesOf(%d, %v) = %v, %v", k, ops, n, ok)
		}
	}
	if s := impl.FormatOps(ops); s != "" {
		t.Errorf("FormatOps(%v) = %q", ops, s)
	}
}

func rejectText(t *testing.T, text string) {
	t.Helper()
	if ops, ok := impl.ParseOps(text); ok || len(ops) != 0 {
		t.Errorf("ParseOps(%q) = %v, %v", text, ops, ok)
	}
}

// TestPromise2Short: all short lists of three changes, those that are not valid among them.
func TestPromise2Short(t *testing.T) {
	lists := [][]impl.Op{nil}
	for next := 0; next < len(lists); next++ {
		ops := lists[next]
		size := 0
		for _, op := range ops {
			if op.Push {
				size++
			} else {
				size--
			}
			if size < 0 {
				break
			}
		}
		if size < 0 {
			rejectOps(t, ops)
		} else {
			checkOps(t, ops)
		}
		if len(ops) == 6 {
			continue
		}
		for _, op := range []impl.Op{push(7), push(30), take} {
			lists = append(lists, append(slices.Clone(ops), op))
		}
	}
}

// longLists are valid lists of 200 changes, in which windows get long and empty again.
func longLists(count int) [][]impl.Op {
	state := 1
	next := func(n int) int {
		state = state * 48271 % 2147483647
		return state / 1000 % n
	}
	var lists [][]impl.Op
	for range count {
		var ops []impl.Op
		size, chance := 0, 1+next(9)
		for len(ops) < 200 {
			if len(ops)%60 == 0 {
				chance = 1 + next(9)
			}
			if size < 60 && (size == 0 || next(10) < chance) {
				ops = append(ops, push(next(97)))
				size++
			} else {
				ops = append(ops, take)
				size--
			}
		}
		lists = append(lists, ops)
	}
	return lists
}

// TestPromise2Long: 200 changes, and one too many.
func TestPromise2Long(t *testing.T) {
	for _, ops := range longLists(40) {
		checkOps(t, ops)
		rejectOps(t, append(ops, push(0)))
	}
}

func TestNoOps(t *testing.T) {
	for _, ops := range [][]impl.Op{nil, {}} {
		checkOps(t, ops)
		if s := impl.FormatOps(ops); s != "" {
			t.Errorf("FormatOps(%v) = %q", ops, s)
		}
	}
	if ops, ok := impl.ParseOps(""); !ok || len(ops) != 0 {
		t.Errorf("ParseOps of the empty text = %v, %v", ops, ok)
	}
}

// TestOpsExample has the document's example.
func TestOpsExample(t *testing.T) {
	ops, ok := impl.ParseOps("+3 +7 - +1")
	if !ok || !slices.Equal(ops, []impl.Op{push(3), push(7), take, push(1)}) {
		t.Fatalf("ParseOps = %v, %v", ops, ok)
	}
	if w, ok := impl.WindowAfter(ops); !ok || !slices.Equal(w, []int{7, 1}) {
		t.Errorf("WindowAfter(%v) = %v, %v", ops, w, ok)
	}
}

func TestOpsLimits(t *testing.T) {
	checkOps(t, []impl.Op{push(0)})
	checkOps(t, []impl.Op{push(96), take})
	checkOps(t, pushes(60))
	checkOps(t, append(pushes(60), take, push(96), take))
	checkOps(t, append(pushes(60), slices.Repeat([]impl.Op{take, push(5)}, 70)...))
	checkOps(t, append(pushes(60), slices.Repeat([]impl.Op{take}, 60)...))
	checkOps(t, pairs(199))
	checkOps(t, pairs(200))
	rejectOps(t, pairs(201))
	rejectOps(t, pairs(1000))
	rejectOps(t, pushes(61))
	rejectOps(t, append(pushes(61), take, take))
	rejectOps(t, append(pushes(60), take, push(1), push(2)))
	rejectOps(t, append(pushes(60), slices.Repeat([]impl.Op{take}, 61)...))
	rejectOps(t, []impl.Op{take})
	rejectOps(t, []impl.Op{take, push(1)})
	rejectOps(t, []impl.Op{push(1), take, take, push(1), push(1)})
}

func TestOpsItems(t *testing.T) {
	for n := -100; n <= 200; n++ {
		if 0 <= n && n <= 96 {
			checkOps(t, []impl.Op{push(50), push(n)})
		} else {
			rejectOps(t, []impl.Op{push(50), push(n)})
		}
		if n != 0 {
			rejectOps(t, []impl.Op{push(50), {Item: n}})
			rejectOps(t, []impl.Op{push(n & 63), {Item: n}, push(1)})
		}
	}
	for _, n := range notItems {
		rejectOps(t, []impl.Op{push(n)})
		rejectOps(t, []impl.Op{push(n), take})
		rejectOps(t, []impl.Op{push(1), {Item: n}})
	}
}

// TestWindowOwn: windows have memory of their own, and their changes are not kept.
func TestWindowOwn(t *testing.T) {
	ops := []impl.Op{push(3), push(7), take, push(1)}
	first, _ := impl.WindowAfter(ops)
	first[0], first[1] = 50, 51
	_ = append(first, 52)
	second, _ := impl.WindowAfter(ops)
	third, _ := impl.WindowAfter(append(ops, take))
	if !slices.Equal(first, []int{50, 51}) || !slices.Equal(second, []int{7, 1}) || !slices.Equal(third, []int{1}) {
		t.Errorf("WindowAfter = %v, %v, %v", first, second, third)
	}
}

// TestQueriesEmpty: a window that gets empty has a number for four kinds.
func TestQueriesEmpty(t *testing.T) {
	wants := [][]int{{}, {5, 0, 8}, {1, 0, 1}, {5, -1, 8}, {5, -1, 8}, {5, -1, 8}, {5, -1, 8}, {5, -1, 8}, {11, 1, 17}, {0, 0, 0}, {0, -1, 0}}
	for k := 1; k <= 10; k++ {
		got, ok := impl.QueriesOf(k, []impl.Op{push(5), take, push(8)})
		if !ok || !slices.Equal(got, wants[k]) {
			t.Errorf("QueriesOf(%d) = %v, %v, not %v", k, got, ok, wants[k])
		}
	}
}

func TestQueriesKinds(t *testing.T) {
	for _, k := range notKinds {
		for _, ops := range [][]impl.Op{nil, {push(5)}, {push(5), take}, {take}} {
			if got, ok := impl.QueriesOf(k, ops); ok || len(got) != 0 {
				t.Errorf("QueriesOf(%d, %v) = %v, %v", k, ops, got, ok)
			}
		}
	}
}

// TestSlides: for rows of all sizes, the changes leave the last items, pass
// through the windows of SlideNumbers, and have no window with two items more.
func TestSlides(t *testing.T) {
	long := directWindow(pushes(60))
	for _, items := range append(slices.Clone(rows), long[:30], long[:58], long[:59], long) {
		for size := 1; size <= 60; size++ {
			before := slices.Clone(items)
			checkSlideOps(t, items, size)
			checkSlideNumbers(t, items, size)
			if !slices.Equal(items, before) {
				t.Fatalf("%v has become %v", before, items)
			}
		}
	}
}

func checkSlideOps(t *testing.T, items []int, size int) {
	t.Helper()
	got, ok := impl.SlideOps(items, size)
	if size == 60 {
		if ok || len(got) != 0 {
			t.Fatalf("SlideOps(%v, 60) = %v, %v", items, got, ok)
		}
		return
	}
	var want []impl.Op
	window := 0
	for _, n := range items {
		want = append(want, push(n))
		window++
		if window > size {
			want = append(want, take)
			window--
		}
	}
	if !ok || !slices.Equal(got, want) {
		t.Fatalf("SlideOps(%v, %d) = %v, %v, not %v", items, size, got, ok, want)
	}
	last := items[max(0, len(items)-size):]
	if w, ok := impl.WindowAfter(got); !ok || !slices.Equal(w, last) {
		t.Fatalf("SlideOps(%v, %d) leaves %v, %v", items, size, w, ok)
	}
}

func checkSlideNumbers(t *testing.T, items []int, size int) {
	t.Helper()
	for k := 1; k <= 10; k++ {
		var want []int
		for from := range items {
			if len(items)-from >= size {
				want = append(want, directNumber(k, items[from:from+size]))
			}
		}
		got, ok := impl.SlideNumbers(k, items, size)
		if !ok || !slices.Equal(got, want) {
			t.Fatalf("SlideNumbers(%d, %v, %d) = %v, %v, not %v", k, items, size, got, ok, want)
		}
	}
}

func TestSlideExamples(t *testing.T) {
	items := []int{1, 2, 3, 4}
	texts := map[int]string{1: "+1 +2 - +3 - +4 -", 3: "+1 +2 +3 +4 -", 4: "+1 +2 +3 +4", 5: "+1 +2 +3 +4", 59: "+1 +2 +3 +4"}
	for size, want := range texts {
		if ops, ok := impl.SlideOps(items, size); !ok || impl.FormatOps(ops) != want {
			t.Errorf("SlideOps(%v, %d) = %v, %v", items, size, ops, ok)
		}
	}
	numbers := map[int][]int{1: {1, 2, 3, 4}, 2: {3, 5, 7}, 4: {10}, 5: {}, 60: {}}
	for size, want := range numbers {
		if got, ok := impl.SlideNumbers(impl.KindSum, items, size); !ok || !slices.Equal(got, want) {
			t.Errorf("SlideNumbers of size %d = %v, %v", size, got, ok)
		}
	}
}

func TestSlideInvalid(t *testing.T) {
	reject := func(k int, items []int, size int) {
		t.Helper()
		if ops, ok := impl.SlideOps(items, size); impl.KindValid(k) && size != 60 && (ok || len(ops) != 0) {
			t.Errorf("SlideOps(%v, %d) = %v, %v", items, size, ops, ok)
		}
		if got, ok := impl.SlideNumbers(k, items, size); ok || len(got) != 0 {
			t.Errorf("SlideNumbers(%d, %v, %d) = %v, %v", k, items, size, got, ok)
		}
	}
	for _, size := range notSizes {
		for _, items := range [][]int{nil, {1}, {1, 2, 3}} {
			reject(impl.KindSum, items, size)
		}
	}
	for _, size := range []int{1, 2, 59, 60} {
		for _, k := range notKinds {
			reject(k, nil, size)
			reject(k, []int{1, 2, 3}, size)
		}
		for k := 1; k <= 10; k++ {
			reject(k, make([]int, 61), size)
			for _, n := range notItems {
				reject(k, []int{n}, size)
				reject(k, []int{n, 1, 2}, size)
				reject(k, []int{1, 2, n}, size)
			}
		}
	}
}

func TestFormatOps(t *testing.T) {
	texts := map[string][]impl.Op{
		"+0":            {push(0)},
		"+96 -":         {push(96), take},
		"+3 +7 - +1":    {push(3), push(7), take, push(1)},
		"+10 - +9 - +0": {push(10), take, push(9), take, push(0)},
	}
	for text, ops := range texts {
		if got := impl.FormatOps(ops); got != text {
			t.Errorf("FormatOps(%v) = %q, not %q", ops, got, text)
		}
		if got, ok := impl.ParseOps(text); !ok || !slices.Equal(got, ops) {
			t.Errorf("ParseOps(%q) = %v, %v", text, got, ok)
		}
	}
}

// TestParseAll: of all short texts, exactly those that are written as the document says are accepted.
func TestParseAll(t *testing.T) {
	one := `(\+([0-9]|[1-8][0-9]|9[0-6])|-)`
	pattern := regexp.MustCompile(`\A(` + one + `( ` + one + `)*)?\z`)
	texts := []string{""}
	accepted := 0
	for next := 0; next < len(texts); next++ {
		text := texts[next]
		// An item cannot be written without "+", so that no other "-" is in the pattern.
		want := pattern.MatchString(text)
		for end := range text {
			head := text[:end+1]
			want = want && strings.Count(head, "-") <= strings.Count(head, "+")
		}
		got, ok := impl.ParseOps(text)
		if ok != want || ok && impl.FormatOps(got) != text || !ok && len(got) != 0 {
			t.Fatalf("ParseOps(%q) = %v, %v", text, got, ok)
		}
		if ok {
			accepted++
		}
		if len(text) < 6 {
			for _, c := range "+-0179 " {
				texts = append(texts, text+string(c))
			}
		}
	}
	if accepted < 100 {
		t.Errorf("only %d texts are accepted", accepted)
	}
}

func TestParseInvalid(t *testing.T) {
	texts := []string{
		" ", "  ", " +1", "+1 ", "+1  +2", "+1 +2  -", "+1 -  -", "+1\n", "\n+1", "+1\n+2", "+1\t+2", "\t", "+1\r", "+1\u00a0+2",
		"1", "0", "+", "++1", "+-1", "-1", "+1 -0", "+1 -1", "--", "+1 --", "+1-", "+1+2", "+1 -+2", "*1", "=1", "\uff0b1", "+1 \u2212", "+1 \u2013",
		"+01", "+00", "+096", "+0096", "+-0", "+1_0", "+0x1", "+0b1", "+1e1", "+1.0", "+1,+2", "+a", "+\uff11", "+\u0661", "+1\x00", "\x00", "+\xff", "\xff",
		"+97", "+98", "+100", "+960", "+999", "+256", "+4294967296", "+9223372036854775807", "+9223372036854775808", "+18446744073709551616", "+" + strings.Repeat("9", 1000), "+" + strings.Repeat("0", 1000) + "1",
		"-", "- +1", "+1 - -", "+1 - - +2", "+1 +97", "+97 +1", "+1 + 2", "+1 x",
	}
	for _, text := range texts {
		rejectText(t, text)
	}
	// Each of these has a word that is accepted alone, and more of them than are valid together.
	rejectText(t, strings.TrimSuffix(strings.Repeat("+5 ", 61), " "))
	rejectText(t, strings.TrimSuffix(strings.Repeat("+5 - ", 101), " "))
	rejectText(t, strings.TrimSuffix(strings.Repeat("+5 - ", 100), " ")+" +5")
	rejectText(t, strings.TrimSuffix(strings.Repeat("+5 - ", 100000), " "))
	rejectText(t, strings.Repeat(" ", 100000))
	for _, good := range []string{strings.Repeat("+5 ", 60), strings.Repeat("+5 - ", 100)} {
		text := strings.TrimSuffix(good, " ")
		if ops, ok := impl.ParseOps(text); !ok || impl.FormatOps(ops) != text {
			t.Errorf("ParseOps(%q) = %v, %v", text, ops, ok)
		}
		rejectText(t, good)
	}
}
