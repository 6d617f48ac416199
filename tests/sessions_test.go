package tests

import (
	"fmt"
	"math"
	"slices"
	"strings"
	"testing"

	"loop.example/windowaggregates/impl"
)

// notGaps are numbers that are no gap.
var notGaps = []int{math.MinInt, -100, -2, -1, 101, 102, 1000, math.MaxInt}

// notMarks are numbers at which no sessions can be closed.
var notMarks = []int{math.MinInt, -2, -1, 1001, 1002, math.MaxInt}

// row is what a session says about its events.
type row struct {
	from, to, count, number int
}

// plainSession is a session whose tree is a shape, with the items of each time.
type plainSession struct {
	tree  *plainTree
	count int
}

// hasNear reports whether one of the times is at most gap away from another one.
func (p plainSession) hasNear(gap, time int) bool {
	return slices.ContainsFunc(p.tree.shape.times(), func(n int) bool { return max(n-time, time-n) <= gap })
}

func (p plainSession) session(k int) impl.Session {
	times := p.tree.shape.times()
	return impl.Session{From: times[0], To: times[len(times)-1], Count: p.count, Tree: p.tree.tree(k)}
}

// plainAdd is list with an event: that and all sessions with a time near it become one.
func plainAdd(list []plainSession, gap int, e impl.Event) []plainSession {
	var before, behind []plainSession
	one := plainSession{tree: &plainTree{}}
	for _, p := range list {
		switch {
		case p.hasNear(gap, e.Time) && one.count == 0:
			one = plainSession{tree: p.tree.union(&plainTree{}), count: p.count + 1}
			one.tree.put(e.Time, e.Item)
		case p.hasNear(gap, e.Time):
			shape := chained(one.tree.shape, p.tree.shape)
			one = plainSession{tree: one.tree.union(p.tree), count: one.count + p.count}
			one.tree.shape = shape
		case p.tree.shape.times()[0] < e.Time:
			before = append(before, p)
		default:
			behind = append(behind, p)
		}
	}
	if one.count == 0 {
		one.count = 1
		one.tree.put(e.Time, e.Item)
	}
	return slices.Concat(before, []plainSession{one}, behind)
}

func plainAll(k int, list []plainSession) []impl.Session {
	var sessions []impl.Session
	for _, p := range list {
		sessions = append(sessions, p.session(k))
	}
	return sessions
}

// directRows are the rows of events by the document's words: in the order of their
// times, each one comes at most gap after the one before, if it has the same session.
func directRows(k, gap int, events []impl.Event) []row {
	sorted := slices.Clone(events)
	slices.SortStableFunc(sorted, func(a, b impl.Event) int { return a.Time - b.Time })
	var rows []row
	for i, e := range sorted {
		if i == 0 || e.Time-sorted[i-1].Time > gap {
			rows = append(rows, row{from: e.Time})
		}
		last := &rows[len(rows)-1]
		last.to = e.Time
		last.count++
	}
	for i, r := range rows {
		rows[i].number = directNumber(k, itemsIn(events, r.from, r.to))
	}
	return rows
}

// rowsOf are the rows of sessions.
func rowsOf(t *testing.T, k, gap int, list []impl.Session) []row {
	t.Helper()
	numbers, ok := impl.SessionNumbers(k, gap, list)
	if !ok || len(numbers) != len(list) {
		t.Fatalf("SessionNumbers(%d, %d, %s) = %v, %v", k, gap, briefly(list), numbers, ok)
	}
	var rows []row
	for i, s := range list {
		rows = append(rows, row{s.From, s.To, s.Count, numbers[i]})
	}
	return rows
}

func sameSessions(a, b []impl.Session) bool {
	return slices.EqualFunc(a, b, func(a, b impl.Session) bool {
		return a.From == b.From && a.To == b.To && a.Count == b.Count && sameTree(a.Tree, b.Tree)
	})
}

func cloneSessions(list []impl.Session) []impl.Session {
	list = slices.Clone(list)
	for i := range list {
		list[i].Tree = cloneTree(list[i].Tree)
	}
	return list
}

// briefly is a short text of sessions.
func briefly(list []impl.Session) string {
	var words []string
	for _, s := range list {
		words = append(words, fmt.Sprintf("%d to %d, %d events: %s %v", s.From, s.To, s.Count, look(s.Tree), s.Tree.Agg))
	}
	return "[" + strings.Join(words, "; ") + "]"
}

// wantSessions checks a result that has to be valid.
func wantSessions(t *testing.T, k, gap int, got []impl.Session, ok bool, want []impl.Session) {
	t.Helper()
	if !ok || !sameSessions(got, want) {
		t.Fatalf("kind %d, gap %d: %s, %v, not %s", k, gap, briefly(got), ok, briefly(want))
	}
	if !impl.SessionsValid(k, gap, got) {
		t.Fatalf("SessionsValid(%d, %d, %s) is false", k, gap, briefly(got))
	}
}

// mustInsert adds an event, and checks that this leaves the sessions as they were.
func mustInsert(t *testing.T, k, gap int, list []impl.Session, e impl.Event) []impl.Session {
	t.Helper()
	before := cloneSessions(list)
	next, ok := impl.AddToSessions(k, gap, list, e)
	if !ok || !impl.SessionsValid(k, gap, next) {
		t.Fatalf("AddToSessions(%d, %d, %s, %v) = %s, %v", k, gap, briefly(list), e, briefly(next), ok)
	}
	if !sameSessions(list, before) {
		t.Fatalf("AddToSessions(%d, %d, %s, %v) changes its argument to %s", k, gap, briefly(before), e, briefly(list))
	}
	return next
}

// mustSessions adds all events, and checks that this leaves them as they were.
func mustSessions(t *testing.T, k, gap int, events []impl.Event) []impl.Session {
	t.Helper()
	before := slices.Clone(events)
	list, ok := impl.SessionsOf(k, gap, events)
	if !ok || !impl.SessionsValid(k, gap, list) {
		t.Fatalf("SessionsOf(%d, %d, %v) = %s, %v", k, gap, events, briefly(list), ok)
	}
	if !slices.Equal(events, before) {
		t.Fatalf("SessionsOf(%d, %d, %v) changes its argument to %v", k, gap, before, events)
	}
	return list
}

// rejectInsert checks that an event is not added.
func rejectInsert(t *testing.T, k, gap int, list []impl.Session, e impl.Event) {
	t.Helper()
	if got, ok := impl.AddToSessions(k, gap, list, e); ok || len(got) != 0 {
		t.Fatalf("AddToSessions(%d, %d, %s, %v) = %s, %v", k, gap, briefly(list), e, briefly(got), ok)
	}
}

// checkInsert checks which sessions an event makes, by hand.
func checkInsert(t *testing.T, k, gap int, list []impl.Session, e impl.Event, want ...row) {
	t.Helper()
	next := mustInsert(t, k, gap, list, e)
	if got := rowsOf(t, k, gap, next); !slices.Equal(got, want) {
		t.Fatalf("kind %d, gap %d: %v makes %v of %s, not %v", k, gap, e, got, briefly(list), want)
	}
}

// checkSessions adds events one by one, checks the sessions after each of them,
// and all that can be asked of the last ones. It returns these.
func checkSessions(t *testing.T, k, gap int, events []impl.Event) []impl.Session {
	t.Helper()
	var list []impl.Session
	var plain []plainSession
	for i, e := range events {
		list = mustInsert(t, k, gap, list, e)
		plain = plainAdd(plain, gap, e)
		wantSessions(t, k, gap, list, true, plainAll(k, plain))
		if got, want := rowsOf(t, k, gap, list), directRows(k, gap, events[:i+1]); !slices.Equal(got, want) {
			t.Fatalf("kind %d, gap %d: the sessions of %v are %v, not %v", k, gap, events[:i+1], got, want)
		}
	}
	wantSessions(t, k, gap, mustSessions(t, k, gap, events), true, list)
	checkPlaces(t, list)
	for _, mark := range marksOf(gap, list) {
		checkClose(t, k, gap, list, mark)
	}
	return list
}

// checkPlaces checks which session has which time, for all times and some others.
func checkPlaces(t *testing.T, list []impl.Session) {
	t.Helper()
	for time := -2; time <= 402; time++ {
		index := slices.IndexFunc(list, func(s impl.Session) bool { return s.From <= time && time <= s.To })
		wantPlace(t, list, time, index)
	}
	for _, time := range []int{math.MinInt, 1000, 9999, math.MaxInt} {
		wantPlace(t, list, time, -1)
	}
}

// wantPlace checks the index of the session that has a time, or that there is none if it is -1.
func wantPlace(t *testing.T, list []impl.Session, time, index int) {
	t.Helper()
	got, ok := impl.SessionAt(list, time)
	if ok != (index >= 0) || got != max(index, 0) {
		t.Fatalf("SessionAt(%s, %d) = %d, %v, not %d", briefly(list), time, got, ok, index)
	}
}

// marksOf are marks at which sessions are just closed, and just not.
func marksOf(gap int, list []impl.Session) []int {
	marks := []int{0, 1, 200, 400, 500, 501, 999, 1000}
	for i, s := range list {
		if i < 3 || i%7 == 0 || i == len(list)-1 {
			marks = append(marks, s.From, s.To, s.To+gap, s.To+gap+1)
		}
	}
	return marks
}

// checkClose checks which sessions a mark closes, and that this leaves them as they were.
func checkClose(t *testing.T, k, gap int, list []impl.Session, mark int) {
	t.Helper()
	before := cloneSessions(list)
	var want []int
	for i, r := range rowsOf(t, k, gap, list) {
		if r.to+gap < mark {
			want = append(want, r.number)
		} else if i < len(want) {
			t.Fatalf("kind %d, gap %d: %s are not in order", k, gap, briefly(list))
		}
	}
	rest, numbers, ok := impl.CloseSessions(k, gap, list, mark)
	if !slices.Equal(numbers, want) {
		t.Fatalf("CloseSessions(%d, %d, %s, %d) closes %v, not %v", k, gap, briefly(list), mark, numbers, want)
	}
	wantSessions(t, k, gap, rest, ok, list[len(want):])
	if !sameSessions(list, before) {
		t.Fatalf("CloseSessions(%d, %d, %s, %d) changes its argument to %s", k, gap, briefly(before), mark, briefly(list))
	}
}

// wantClosed checks by hand how many sessions stay, and the numbers of the others.
func wantClosed(t *testing.T, k, gap int, list []impl.Session, mark, stay int, want ...int) {
	t.Helper()
	rest, numbers, ok := impl.CloseSessions(k, gap, list, mark)
	if !ok || len(rest) != stay || !slices.Equal(numbers, want) {
		t.Errorf("CloseSessions(%d, %d, %s, %d) = %s, %v, %v, not %d and %v", k, gap, briefly(list), mark, briefly(rest), numbers, ok, stay, want)
	}
	checkClose(t, k, gap, list, mark)
}

// shuffled are events in another order, in which those of the same time keep theirs.
func shuffled(events []impl.Event, seed int) []impl.Event {
	return mixed(impl.Setup{Hop: 1000, Wait: 400}, events, seed, 0)
}

// TestPromise10Orders: six events, in all orders in which those of the same time
// keep theirs, have the same sessions; in other ones as well, but for the numbers.
func TestPromise10Orders(t *testing.T) {
	lists := []struct {
		events []impl.Event
		gaps   []int
	}{
		{[]impl.Event{at(10, 3), at(14, 96), at(17, 7), at(20, 7), at(31, 0), at(40, 20)}, []int{0, 2, 3, 4, 8, 9, 10, 11}},
		{[]impl.Event{at(2, 50), at(2, 7), at(5, 8), at(5, 96), at(5, 1), at(9, 3)}, []int{0, 2, 3, 4, 100}},
		{[]impl.Event{at(0, 1), at(100, 2), at(200, 3), at(299, 50), at(400, 4), at(400, 96)}, []int{0, 98, 99, 100}},
	}
	for _, list := range lists {
		all := orders(list.events)
		for k := 1; k <= 10; k++ {
			for _, gap := range list.gaps {
				want := rowsOf(t, k, gap, checkSessions(t, k, gap, list.events))
				for j, events := range all {
					if j%24 == k {
						checkSessions(t, k, gap, events)
					}
					got := rowsOf(t, k, gap, mustSessions(t, k, gap, events))
					if keepsOrder(list.events, events) && !slices.Equal(got, want) {
						t.Fatalf("kind %d, gap %d: the sessions of %v are %v, not %v", k, gap, events, got, want)
					}
					if direct := directRows(k, gap, events); !slices.Equal(got, direct) {
						t.Fatalf("kind %d, gap %d: the sessions of %v are %v, not %v", k, gap, events, got, direct)
					}
				}
			}
		}
	}
}

// TestPromise10Long: up to 60 events in many orders have the same sessions.
func TestPromise10Long(t *testing.T) {
	moved, most := 0, 0
	for k := 1; k <= 10; k++ {
		for n, list := range eventLists() {
			for i, gap := range []int{0, 1, 2, 3, 5, 6, 7, 30, 100} {
				want := directRows(k, gap, list)
				most = max(most, len(want))
				for seed := range 3 {
					events := shuffled(list, seed)
					if !keepsOrder(list, events) {
						t.Fatalf("%v are not in the order of %v", events, list)
					}
					if !slices.Equal(events, list) {
						moved++
					}
					got := rowsOf(t, k, gap, mustSessions(t, k, gap, events))
					if !slices.Equal(got, want) {
						t.Fatalf("kind %d, gap %d: the sessions of %v are %v, not %v", k, gap, events, got, want)
					}
					if (n+i+seed)%12 == k {
						checkSessions(t, k, gap, events)
					}
				}
			}
		}
	}
	if moved < 1000 || most != 60 {
		t.Errorf("only %d lists are in another order, and there are only %d sessions", moved, most)
	}
}

// TestPromise10AllGaps: each gap, with the kinds and the events in turn.
func TestPromise10AllGaps(t *testing.T) {
	lists := eventLists()
	for gap := range 101 {
		for i := range 4 {
			k, list := (gap+i*3)%10+1, lists[(gap*4+i)%len(lists)]
			want := rowsOf(t, k, gap, checkSessions(t, k, gap, shuffled(list, gap)))
			slices.Reverse(list)
			for _, events := range [][]impl.Event{shuffled(list, i), list} {
				got := rowsOf(t, k, gap, mustSessions(t, k, gap, events))
				if impl.Commutes(k) && !slices.Equal(got, want) {
					t.Fatalf("kind %d, gap %d: the sessions of %v are %v, not %v", k, gap, events, got, want)
				}
			}
			slices.Reverse(list)
		}
	}
}

// TestPromise10SameTime: the order of events of the same time matters for some
// kinds, and is that in which they came, also where a session begins or ends, and
// where two are joined.
func TestPromise10SameTime(t *testing.T) {
	a, b, c, d, e := at(3, 10), at(3, 20), at(5, 15), at(7, 40), at(7, 30)
	numbers := map[int][2]int{
		impl.KindFirst: {10, 20}, impl.KindLast: {30, 40}, impl.KindRise: {2, 3}, impl.KindPlace: {3, 4},
		impl.KindMean: {23, 23}, impl.KindSum: {18, 18}, impl.KindCount: {5, 5}, impl.KindLeast: {10, 10}, impl.KindMost: {40, 40},
	}
	for k, want := range numbers {
		for i, lists := range [][][]impl.Event{
			{{a, b, c, d, e}, {d, e, c, a, b}, {a, d, b, e, c}, {d, a, e, b, c}, {c, d, a, b, e}},
			{{b, a, c, e, d}, {e, d, c, b, a}, {b, e, a, d, c}, {e, b, d, a, c}, {c, e, b, a, d}},
		} {
			for _, events := range lists {
				list := checkSessions(t, k, 2, events)
				if got := rowsOf(t, k, 2, list); !slices.Equal(got, []row{{3, 7, 5, want[i]}}) {
					t.Errorf("kind %d: the sessions of %v are %v, not with %d", k, events, got, want[i])
				}
			}
		}
	}
	// All events at one time are a session that begins and ends with it.
	for _, gap := range []int{0, 1, 100} {
		for _, time := range []int{0, 200, 400} {
			list := checkSessions(t, impl.KindRise, gap, []impl.Event{at(time, 3), at(time, 9), at(time, 9), at(time, 10), at(time, 2)})
			if got := rowsOf(t, impl.KindRise, gap, list); !slices.Equal(got, []row{{time, time, 5, 2}}) {
				t.Errorf("gap %d: the sessions are %v", gap, got)
			}
		}
	}
}

// TestSessionsExample: with a gap of 5, events at 3, 20 and 12 make three
// sessions, and one at 16 more joins two of them.
func TestSessionsExample(t *testing.T) {
	for k := 1; k <= 10; k++ {
		list := checkSessions(t, k, 5, []impl.Event{at(3, 7), at(20, 50), at(12, 60)})
		number := func(items ...int) int { return directNumber(k, items) }
		want := []row{{3, 3, 1, number(7)}, {12, 12, 1, number(60)}, {20, 20, 1, number(50)}}
		if got := rowsOf(t, k, 5, list); !slices.Equal(got, want) {
			t.Errorf("kind %d: the sessions are %v, not %v", k, got, want)
		}
		checkInsert(t, k, 5, list, at(16, 8), row{3, 3, 1, number(7)}, row{12, 20, 3, number(60, 8, 50)})
	}
}

// TestSessionsBetween: an event between two sessions that is near both, only the
// first or only the second one, or none, by hand.
func TestSessionsBetween(t *testing.T) {
	k, gap := impl.KindSum, 10
	list := mustSessions(t, k, gap, []impl.Event{at(10, 1), at(20, 2), at(40, 4), at(50, 8)})
	checkInsert(t, k, gap, list, at(30, 16), row{10, 50, 5, 31})
	checkInsert(t, k, gap, list, at(29, 16), row{10, 29, 3, 19}, row{40, 50, 2, 12})
	checkInsert(t, k, gap, list, at(31, 16), row{10, 20, 2, 3}, row{31, 50, 3, 28})
	checkInsert(t, k, gap, list, at(21, 16), row{10, 21, 3, 19}, row{40, 50, 2, 12})
	checkInsert(t, k, gap, list, at(39, 16), row{10, 20, 2, 3}, row{39, 50, 3, 28})
	// Two times less near each other: none of them is near both.
	list = mustSessions(t, k, gap, []impl.Event{at(10, 1), at(20, 2), at(42, 4), at(50, 8)})
	checkInsert(t, k, gap, list, at(30, 16), row{10, 30, 3, 19}, row{42, 50, 2, 12})
	checkInsert(t, k, gap, list, at(31, 16), row{10, 20, 2, 3}, row{31, 31, 1, 16}, row{42, 50, 2, 12})
	checkInsert(t, k, gap, list, at(32, 16), row{10, 20, 2, 3}, row{32, 50, 3, 28})
	// As near as two sessions can be: each time between them is near both.
	list = mustSessions(t, k, gap, []impl.Event{at(10, 1), at(20, 2), at(31, 4), at(50, 8), at(41, 0)})
	for time := 21; time <= 30; time++ {
		checkInsert(t, k, gap, list, at(time, 16), row{10, 50, 6, 31})
	}
	checkInsert(t, k, gap, list, at(20, 16), row{10, 20, 3, 19}, row{31, 50, 3, 12})
	checkInsert(t, k, gap, list, at(31, 16), row{10, 20, 2, 3}, row{31, 50, 4, 28})
	// The sessions in front and behind stay as they are.
	list = mustSessions(t, k, gap, []impl.Event{at(10, 1), at(30, 2), at(50, 4), at(70, 8)})
	checkInsert(t, k, gap, list, at(40, 16), row{10, 10, 1, 1}, row{30, 50, 3, 22}, row{70, 70, 1, 8})
	checkInsert(t, k, gap, list, at(30, 16), row{10, 10, 1, 1}, row{30, 30, 2, 18}, row{50, 50, 1, 4}, row{70, 70, 1, 8})
}

// TestSessionsEnds: an event in front of all sessions, one behind them, and one
// in a session, by hand.
func TestSessionsEnds(t *testing.T) {
	k, gap := impl.KindLast, 10
	list := mustSessions(t, k, gap, []impl.Event{at(50, 1), at(60, 2), at(55, 3), at(100, 4)})
	checkInsert(t, k, gap, list, at(0, 9), row{0, 0, 1, 9}, row{50, 60, 3, 2}, row{100, 100, 1, 4})
	checkInsert(t, k, gap, list, at(39, 9), row{39, 39, 1, 9}, row{50, 60, 3, 2}, row{100, 100, 1, 4})
	checkInsert(t, k, gap, list, at(40, 9), row{40, 60, 4, 2}, row{100, 100, 1, 4})
	checkInsert(t, k, gap, list, at(110, 9), row{50, 60, 3, 2}, row{100, 110, 2, 9})
	checkInsert(t, k, gap, list, at(111, 9), row{50, 60, 3, 2}, row{100, 100, 1, 4}, row{111, 111, 1, 9})
	checkInsert(t, k, gap, list, at(400, 9), row{50, 60, 3, 2}, row{100, 100, 1, 4}, row{400, 400, 1, 9})
	for time := 50; time < 60; time++ {
		checkInsert(t, k, gap, list, at(time, 9), row{50, 60, 4, 2}, row{100, 100, 1, 4})
	}
	checkInsert(t, k, gap, list, at(60, 9), row{50, 60, 4, 9}, row{100, 100, 1, 4})
	// Sessions that begin at 0 and end at 400.
	list = mustSessions(t, k, 100, []impl.Event{at(0, 1), at(400, 2)})
	checkInsert(t, k, 100, list, at(0, 9), row{0, 0, 2, 9}, row{400, 400, 1, 2})
	checkInsert(t, k, 100, list, at(100, 9), row{0, 100, 2, 9}, row{400, 400, 1, 2})
	checkInsert(t, k, 100, list, at(101, 9), row{0, 0, 1, 1}, row{101, 101, 1, 9}, row{400, 400, 1, 2})
	checkInsert(t, k, 100, list, at(299, 9), row{0, 0, 1, 1}, row{299, 299, 1, 9}, row{400, 400, 1, 2})
	checkInsert(t, k, 100, list, at(300, 9), row{0, 0, 1, 1}, row{300, 400, 2, 2})
	checkInsert(t, k, 100, list, at(400, 9), row{0, 0, 1, 1}, row{400, 400, 2, 9})
}

// TestSessionsGaps: the least and the greatest gap, by hand.
func TestSessionsGaps(t *testing.T) {
	k := impl.KindSum
	want := func(gap int, events []impl.Event, want ...row) []impl.Session {
		t.Helper()
		list := checkSessions(t, k, gap, events)
		if got := rowsOf(t, k, gap, list); !slices.Equal(got, want) {
			t.Errorf("gap %d: the sessions of %v are %v, not %v", gap, events, got, want)
		}
		return list
	}
	// With a gap of 0, only events of the same time have the same session.
	list := want(0, []impl.Event{at(4, 1), at(6, 2), at(4, 4), at(5, 8)}, row{4, 4, 2, 5}, row{5, 5, 1, 8}, row{6, 6, 1, 2})
	checkInsert(t, k, 0, list, at(5, 16), row{4, 4, 2, 5}, row{5, 5, 2, 24}, row{6, 6, 1, 2})
	checkInsert(t, k, 0, list, at(3, 16), row{3, 3, 1, 16}, row{4, 4, 2, 5}, row{5, 5, 1, 8}, row{6, 6, 1, 2})
	checkInsert(t, k, 0, list, at(7, 16), row{4, 4, 2, 5}, row{5, 5, 1, 8}, row{6, 6, 1, 2}, row{7, 7, 1, 16})
	want(1, []impl.Event{at(4, 1), at(6, 2), at(4, 4)}, row{4, 4, 2, 5}, row{6, 6, 1, 2})
	want(1, []impl.Event{at(4, 1), at(6, 2), at(4, 4), at(5, 8)}, row{4, 6, 4, 15})
	hundreds := []impl.Event{at(0, 1), at(200, 2), at(400, 4), at(100, 8), at(300, 16)}
	want(100, hundreds[:3], row{0, 0, 1, 1}, row{200, 200, 1, 2}, row{400, 400, 1, 4})
	want(100, hundreds[:4], row{0, 200, 3, 11}, row{400, 400, 1, 4})
	want(100, hundreds, row{0, 400, 5, 31})
	want(99, hundreds, row{0, 0, 1, 1}, row{100, 100, 1, 8}, row{200, 200, 1, 2}, row{300, 300, 1, 16}, row{400, 400, 1, 4})
	want(100, []impl.Event{at(0, 1), at(101, 2)}, row{0, 0, 1, 1}, row{101, 101, 1, 2})
	want(100, []impl.Event{at(299, 1), at(400, 2)}, row{299, 299, 1, 1}, row{400, 400, 1, 2})
	want(100, []impl.Event{at(300, 1), at(400, 2)}, row{300, 400, 2, 3})
}

// TestSessionsNone: no events and no sessions, as no slice and as empty ones.
func TestSessionsNone(t *testing.T) {
	for k := 1; k <= 10; k++ {
		for _, gap := range []int{0, 7, 100} {
			for _, events := range [][]impl.Event{nil, {}, make([]impl.Event, 0, 9)} {
				if list := checkSessions(t, k, gap, events); len(list) != 0 {
					t.Errorf("SessionsOf(%d, %d, %v) = %s", k, gap, events, briefly(list))
				}
			}
			for _, list := range [][]impl.Session{nil, {}, make([]impl.Session, 0, 9)} {
				if !impl.SessionsValid(k, gap, list) {
					t.Errorf("SessionsValid(%d, %d) of no sessions is false", k, gap)
				}
				if rows := rowsOf(t, k, gap, list); len(rows) != 0 {
					t.Errorf("SessionNumbers(%d, %d) of no sessions = %v", k, gap, rows)
				}
				checkPlaces(t, list)
				for _, mark := range []int{0, 1, 1000} {
					wantClosed(t, k, gap, list, mark, 0)
				}
				for _, time := range []int{0, 7, 400} {
					checkInsert(t, k, gap, list, at(time, 5), row{time, time, 1, directNumber(k, []int{5})})
				}
			}
		}
	}
}

// TestSessionsAllTimes: each time and each item of an event, with other ones.
func TestSessionsAllTimes(t *testing.T) {
	for time := range 401 {
		checkSessions(t, time%10+1, time%8, []impl.Event{at(200, 5), at(time, time%97), at(212, 8), at(190, 7)})
	}
	for item := range 97 {
		checkSessions(t, impl.KindLast, 4, []impl.Event{at(20, 5), at(19, item), at(30, item), at(25, 6)})
	}
}

// apartBy are as many sessions with one event each, whose times are some steps apart.
func apartBy(t *testing.T, k, gap, count, step int) []impl.Session {
	t.Helper()
	var events []impl.Event
	for i := range count {
		events = append(events, at(i*step, (i*41+7)%97))
	}
	list := mustSessions(t, k, gap, events)
	if len(list) != count {
		t.Fatalf("gap %d: the sessions of %v are %s", gap, events, briefly(list))
	}
	return list
}

// TestSessionsFull: MaxSize sessions, to which no other one can be added, but
// events that are near one or two of them.
func TestSessionsFull(t *testing.T) {
	for k := 1; k <= 10; k++ {
		for gap := range 6 {
			list := apartBy(t, k, gap, 60, gap+1)
			for _, time := range []int{59*(gap+1) + gap + 1, 399, 400} {
				rejectInsert(t, k, gap, list, at(time, 5))
			}
			for i := range 60 {
				if next := mustInsert(t, k, gap, list, at(i*(gap+1), 5)); len(next) != 60 || next[i].Count != 2 {
					t.Errorf("gap %d: the time %d makes %s", gap, i*(gap+1), briefly(next))
				}
			}
			last := mustInsert(t, k, gap, list, at(59*(gap+1)+gap, 5))
			if len(last) != 60 || last[59].To != 59*(gap+1)+gap {
				t.Errorf("gap %d: the sessions are %s", gap, briefly(last))
			}
			if gap == 0 {
				continue
			}
			// One that joins two makes room for another one.
			joined := mustInsert(t, k, gap, list, at(30*(gap+1)+1, 5))
			if len(joined) != 59 || joined[30].Count != 3 {
				t.Errorf("gap %d: the sessions are %s", gap, briefly(joined))
			}
			more := mustInsert(t, k, gap, joined, at(400, 5))
			if len(more) != 60 {
				t.Errorf("gap %d: the sessions are %s", gap, briefly(more))
			}
			checkClose(t, k, gap, more, 400)
		}
		// In front of all of them, and between two of them.
		var events []impl.Event
		for i := range 60 {
			events = append(events, at(i*6+5, i))
		}
		list := checkSessions(t, k, 1, events)
		for _, time := range []int{0, 3, 8, 9, 182, 356, 357, 361, 400} {
			rejectInsert(t, k, 1, list, at(time, 5))
		}
		for _, time := range []int{4, 6, 10, 12, 358, 360} {
			if next := mustInsert(t, k, 1, list, at(time, 5)); len(next) != 60 {
				t.Errorf("the time %d makes %s", time, briefly(next))
			}
		}
		for _, place := range []int{0, 1, 30, 59, 60} {
			many := slices.Insert(slices.Clone(list), place, sessionOf(k, full(1, place*6+2), 1))
			rejectSessions(t, k, 1, many)
			if !impl.SessionsValid(k, 1, many[:60]) || !impl.SessionsValid(k, 1, many[1:]) {
				t.Errorf("SessionsValid(%d, 1) of 60 sessions is false", k)
			}
		}
	}
}

// TestSessionsEventLimits: MaxSize events, and too many.
func TestSessionsEventLimits(t *testing.T) {
	for k := 1; k <= 10; k++ {
		for n, times := range [][]int{{0}, {400}, {0, 400}, {7, 7, 0, 400}, {399, 398, 400}, {0, 10, 20, 30, 40}} {
			var events []impl.Event
			for i := range 60 {
				events = append(events, at(times[i%len(times)], (i*41+n)%97))
			}
			for _, gap := range []int{0, 1, 10, 100} {
				checkSessions(t, k, gap, events)
				for _, many := range [][]impl.Event{append(slices.Clone(events), at(5, 5)), slices.Concat(events, events), make([]impl.Event, 100000)} {
					rejectGapEvents(t, k, gap, many)
				}
			}
		}
	}
}

// rejectGapEvents checks that events, a kind or a gap are not accepted.
func rejectGapEvents(t *testing.T, k, gap int, events []impl.Event) {
	t.Helper()
	if list, ok := impl.SessionsOf(k, gap, events); ok || len(list) != 0 {
		t.Fatalf("SessionsOf(%d, %d) of %d events = %s, %v", k, gap, len(events), briefly(list), ok)
	}
}

// rejectSessions checks that no function accepts sessions.
func rejectSessions(t *testing.T, k, gap int, list []impl.Session) {
	t.Helper()
	if impl.SessionsValid(k, gap, list) {
		t.Fatalf("SessionsValid(%d, %d, %s) is true", k, gap, briefly(list))
	}
	for _, e := range []impl.Event{at(0, 0), at(5, 7), at(200, 50), at(400, 96)} {
		rejectInsert(t, k, gap, list, e)
	}
	if numbers, ok := impl.SessionNumbers(k, gap, list); ok || len(numbers) != 0 {
		t.Fatalf("SessionNumbers(%d, %d, %s) = %v, %v", k, gap, briefly(list), numbers, ok)
	}
	for _, mark := range []int{0, 5, 1000} {
		rejectClose(t, k, gap, list, mark)
	}
}

func rejectClose(t *testing.T, k, gap int, list []impl.Session, mark int) {
	t.Helper()
	if rest, numbers, ok := impl.CloseSessions(k, gap, list, mark); ok || len(rest) != 0 || len(numbers) != 0 {
		t.Fatalf("CloseSessions(%d, %d, %s, %d) = %s, %v, %v", k, gap, briefly(list), mark, briefly(rest), numbers, ok)
	}
}

// TestSessionsKindsGaps: numbers that are no kind, and such that are no gap.
func TestSessionsKindsGaps(t *testing.T) {
	good := []impl.Event{at(3, 7), at(20, 50)}
	reject := func(k, gap int, list []impl.Session) {
		t.Helper()
		for _, events := range [][]impl.Event{nil, {}, good} {
			rejectGapEvents(t, k, gap, events)
		}
		for _, list := range [][]impl.Session{nil, {}, list} {
			rejectSessions(t, k, gap, list)
		}
	}
	for k := 1; k <= 10; k++ {
		list := mustSessions(t, k, 0, good)
		for _, bad := range notKinds {
			for _, gap := range []int{0, 5, 100} {
				reject(bad, gap, list)
			}
			for _, gap := range notGaps {
				reject(bad, gap, list)
			}
		}
		for _, gap := range notGaps {
			reject(k, gap, list)
		}
		for _, gap := range []int{0, 1, 16} {
			if !impl.SessionsValid(k, gap, list) {
				t.Errorf("SessionsValid(%d, %d, %s) is false", k, gap, briefly(list))
			}
		}
		for _, gap := range []int{17, 99, 100} {
			rejectSessions(t, k, gap, list)
		}
	}
}

// TestSessionsEventsInvalid: times and items that are none, at each place of a list.
func TestSessionsEventsInvalid(t *testing.T) {
	var bad []impl.Event
	for _, time := range notEventTimes {
		bad = append(bad, at(time, 0), at(time, 50), at(time, -1))
	}
	for _, item := range notItems {
		bad = append(bad, at(0, item), at(7, item), at(400, item))
	}
	events := []impl.Event{at(0, 0), at(400, 96), at(30, 7), at(2, 9)}
	for k := 1; k <= 10; k++ {
		for _, gap := range []int{0, 5, 100} {
			list := mustSessions(t, k, gap, events)
			for _, e := range bad {
				rejectInsert(t, k, gap, list, e)
				rejectInsert(t, k, gap, nil, e)
				for i := range len(events) + 1 {
					rejectGapEvents(t, k, gap, slices.Insert(slices.Clone(events), i, e))
				}
				rejectGapEvents(t, k, gap, []impl.Event{e})
			}
		}
	}
}

// sessionOf is a session of a shape with some items, that counts some number of events.
func sessionOf(k int, s *shape, count int) impl.Session {
	return plainSession{tree: &plainTree{shape: s, items: itemsFor(s)}, count: count}.session(k)
}

// TestSessionsMade: sessions with trees of other shapes than events make them.
func TestSessionsMade(t *testing.T) {
	lists := [][]*shape{
		{full(3, 4), leaning(4, 13, 0), leaning(4, 23, 1).moved(0, 1)},
		{leaning(5, 0, 1), full(1, 16), bushy(5, 20, 2), full(2, 60)},
		{full(4, 2).moved(0, 2), rising(40, 30), full(1, 73), leaning(6, 76, 0)},
		{full(1, 0), full(5, 3).moved(0, 3), full(1, 100), full(1, 400)},
	}
	made := 0
	for n, shapes := range lists {
		for _, gap := range []int{1, 2, 3, 8, 9, 24} {
			var plain []plainSession
			for i, s := range shapes {
				plain = append(plain, plainSession{tree: &plainTree{shape: s, items: itemsFor(s)}, count: len(s.times()) * (i + 1)})
			}
			first := (n*7+gap)%10 + 1
			for _, k := range []int{first, first%10 + 1} {
				list := plainAll(k, plain)
				if apart(gap, shapes) != impl.SessionsValid(k, gap, list) {
					t.Fatalf("SessionsValid(%d, %d, %s) is %v", k, gap, briefly(list), !apart(gap, shapes))
				}
				if !apart(gap, shapes) {
					rejectSessions(t, k, gap, list)
					continue
				}
				for time := range 401 {
					next := mustInsert(t, k, gap, list, at(time, 9))
					wantSessions(t, k, gap, next, true, plainAll(k, plainAdd(plain, gap, at(time, 9))))
				}
				made++
				checkPlaces(t, list)
				for mark := range 600 {
					checkClose(t, k, gap, list, mark)
				}
			}
		}
	}
	if made < 10 {
		t.Errorf("only %d lists are valid", made)
	}
}

// apart reports whether times of a shape are at most gap apart, and those of
// different ones more than that.
func apart(gap int, shapes []*shape) bool {
	for i, s := range shapes {
		times := s.times()
		for j := 1; j < len(times); j++ {
			if times[j] > times[j-1]+gap {
				return false
			}
		}
		if i+1 < len(shapes) && times[len(times)-1]+gap >= shapes[i+1].times()[0] {
			return false
		}
	}
	return true
}

// TestSessionsValidFields: each field of a session at its limits and past them.
func TestSessionsValidFields(t *testing.T) {
	far := []int{math.MinInt, -400, -1, 0, 1, 7, 30, 400, 401, 9999, math.MaxInt}
	for k := 1; k <= 10; k++ {
		good := []impl.Session{sessionOf(k, full(2, 2), 3), sessionOf(k, full(3, 10), 7), sessionOf(k, full(2, 27).moved(0, 1), 9)}
		accept := func(change func(s *impl.Session)) {
			t.Helper()
			for i := range good {
				list := cloneSessions(good)
				change(&list[i])
				if !impl.SessionsValid(k, 5, list) {
					t.Fatalf("SessionsValid(%d, 5, %s) is false", k, briefly(list))
				}
			}
		}
		reject := func(change func(s *impl.Session)) {
			t.Helper()
			for i := range good {
				list := cloneSessions(good)
				change(&list[i])
				rejectSessions(t, k, 5, list)
			}
		}
		accept(func(s *impl.Session) {})
		for _, by := range []int{-5, -1, 1, 5} {
			reject(func(s *impl.Session) { s.From += by })
			reject(func(s *impl.Session) { s.To += by })
			reject(func(s *impl.Session) { s.From, s.To = s.From+by, s.To+by })
		}
		for _, n := range far {
			reject(func(s *impl.Session) { s.From = n })
			reject(func(s *impl.Session) { s.To = n })
			reject(func(s *impl.Session) { s.From, s.To = n, n })
		}
		reject(func(s *impl.Session) { s.From, s.To = s.To, s.From })
		reject(func(s *impl.Session) { *s = impl.Session{} })
		reject(func(s *impl.Session) { s.Tree = impl.Tree{} })
		reject(func(s *impl.Session) { s.From, s.To, s.Tree = 0, 0, impl.Tree{} })
		reject(func(s *impl.Session) { s.Count, s.Tree = 0, impl.Tree{} })
		times := func(s *impl.Session) int { return len(impl.TreeTimes(s.Tree)) }
		accept(func(s *impl.Session) { s.Count = times(s) })
		accept(func(s *impl.Session) { s.Count = times(s) + 1 })
		for _, n := range []int{59, 60, 61, 599, 600} {
			accept(func(s *impl.Session) { s.Count = n })
		}
		reject(func(s *impl.Session) { s.Count = times(s) - 1 })
		for _, n := range []int{math.MinInt, -1, 0, 1, 2, 601, 602, 6000, math.MaxInt} {
			reject(func(s *impl.Session) { s.Count = n })
		}
	}
}

// TestSessionsValidOrder: sessions that are too near each other, or not in order.
func TestSessionsValidOrder(t *testing.T) {
	for k := 1; k <= 10; k++ {
		one := func(times ...int) impl.Session {
			events := eventsAt(times)
			return impl.Session{From: times[0], To: times[len(times)-1], Count: len(times), Tree: putAll(t, k, events)}
		}
		a, b, c := one(10, 15, 20), one(31, 40), one(51, 55)
		for gap := range 101 {
			for _, list := range [][]impl.Session{{a, b}, {b, c}, {a, b, c}} {
				good := gap == 9 || gap == 10
				if impl.SessionsValid(k, gap, list) != good {
					t.Fatalf("SessionsValid(%d, %d, %s) is %v", k, gap, briefly(list), !good)
				}
				if !good {
					rejectSessions(t, k, gap, list)
				}
			}
		}
		for _, list := range [][]impl.Session{
			{b, a}, {c, b}, {a, c, b}, {b, a, c}, {c, b, a}, {a, a}, {a, b, b}, {a, b, a}, {b, c, a},
			{a, one(20, 25)}, {a, one(15, 25)}, {a, one(12, 18)}, {a, one(10)}, {a, one(20)}, {one(5, 14, 23), a}, {a, one(30)}, {a, one(21)}, {one(0), a},
		} {
			rejectSessions(t, k, 10, list)
		}
		for _, list := range [][]impl.Session{{a}, {b}, {a, c}, {a, one(31)}, {one(0), one(11)}, {a, one(400)}, {one(0), b, one(390, 400)}} {
			if !impl.SessionsValid(k, 10, list) {
				t.Errorf("SessionsValid(%d, 10, %s) is false", k, briefly(list))
			}
		}
		// Times past the last one of an event, which a tree can have.
		for _, list := range [][]impl.Session{{one(401)}, {a, one(401)}, {one(399, 400, 401)}, {one(395, 405)}, {one(9999)}, {a, b, one(395, 401)}} {
			rejectSessions(t, k, 10, list)
		}
	}
}

// TestSessionsValidTimes: times in a tree that are more than the gap apart, at each place.
func TestSessionsValidTimes(t *testing.T) {
	for k := 1; k <= 10; k++ {
		for _, count := range []int{2, 3, 7, 12} {
			for place := range count - 1 {
				for _, gap := range []int{1, 3, 10} {
					for _, more := range []int{0, 1, 2, 50} {
						var times []int
						for i := range count {
							times = append(times, i*gap+5)
							if i > place {
								times[i] += more
							}
						}
						s := impl.Session{From: 5, To: times[count-1], Count: count, Tree: putAll(t, k, eventsAt(times))}
						if more > 0 {
							rejectSessions(t, k, gap, []impl.Session{s})
							rejectSessions(t, k, gap, []impl.Session{s, sessionOf(k, full(1, 300), 1)})
							continue
						}
						if !impl.SessionsValid(k, gap, []impl.Session{s}) {
							t.Fatalf("SessionsValid(%d, %d, %s) is false", k, gap, briefly([]impl.Session{s}))
						}
					}
				}
			}
		}
	}
}

// TestSessionsTreeInvalid: sessions whose tree is none of the kind, at each place of a list.
func TestSessionsTreeInvalid(t *testing.T) {
	for k := 1; k <= 10; k++ {
		good := []impl.Session{sessionOf(k, full(1, 0), 1), sessionOf(k, full(3, 4), 7), sessionOf(k, full(1, 13), 1)}
		for n := range good {
			for node := range nodesOf(&good[n].Tree) {
				for _, change := range changes(k) {
					list := cloneSessions(good)
					change(nodesOf(&list[n].Tree)[node])
					rejectSessions(t, k, 2, list)
					// Also if the times are those of the tree.
					if times := impl.TreeTimes(list[n].Tree); len(times) > 0 {
						list[n].From, list[n].To = times[0], times[len(times)-1]
						rejectSessions(t, k, 2, list)
					}
				}
			}
		}
		rejectSessions(t, k, 1, []impl.Session{sessionOf(k, rising(0, 101), 101)})
		if list := []impl.Session{sessionOf(k, rising(0, 100), 100)}; !impl.SessionsValid(k, 1, list) {
			t.Errorf("SessionsValid(%d, 1, %s) is false", k, briefly(list))
		}
	}
	events := tellingEvents()
	for of := 1; of <= 10; of++ {
		list := []impl.Session{{From: 2, To: 9, Count: len(events), Tree: putAll(t, of, events)}}
		for k := 1; k <= 10; k++ {
			if k != of {
				rejectSessions(t, k, 4, list)
			} else if !impl.SessionsValid(k, 4, list) {
				t.Errorf("SessionsValid(%d, 4, %s) is false", k, briefly(list))
			}
		}
	}
}

// TestSessionsTreeEndless: trees without an end in a session.
func TestSessionsTreeEndless(t *testing.T) {
	for _, tree := range endlessTrees() {
		list := []impl.Session{{From: 0, To: 5, Count: 5, Tree: tree}}
		added, ok1 := impl.AddToSessions(impl.KindSum, 5, list, at(5, 5))
		numbers, ok2 := impl.SessionNumbers(impl.KindSum, 5, list)
		rest, closed, ok3 := impl.CloseSessions(impl.KindSum, 5, list, 50)
		if impl.SessionsValid(impl.KindSum, 5, list) || ok1 || ok2 || ok3 || len(added)+len(numbers)+len(rest)+len(closed) > 0 {
			t.Error("a tree without an end is accepted")
		}
		if i, ok := impl.SessionAt(list, 5); !ok || i != 0 {
			t.Errorf("SessionAt = %d, %v", i, ok)
		}
	}
}

// TestSessionsCounts: a session that counts as many events as it may, alone and
// joined with another one.
func TestSessionsCounts(t *testing.T) {
	for k := 1; k <= 10; k++ {
		list := func(first, second int) []impl.Session {
			return []impl.Session{sessionOf(k, full(2, 4), first), sessionOf(k, full(2, 8), second)}
		}
		// The time 7 is near both, and 3 and 11 are near one of them.
		for _, c := range [][3]int{{300, 299, 600}, {596, 3, 600}, {3, 596, 600}, {3, 3, 7}, {100, 400, 501}} {
			next := mustInsert(t, k, 1, list(c[0], c[1]), at(7, 5))
			if len(next) != 1 || next[0].Count != c[2] || next[0].From != 4 || next[0].To != 10 {
				t.Errorf("kind %d: the counts %v make %s", k, c, briefly(next))
			}
		}
		for _, c := range [][2]int{{300, 300}, {597, 3}, {3, 597}, {599, 599}, {600, 3}, {3, 600}, {600, 600}, {301, 299}} {
			rejectInsert(t, k, 1, list(c[0], c[1]), at(7, 5))
		}
		for _, time := range []int{3, 4, 5, 6} {
			rejectInsert(t, k, 1, list(600, 3), at(time, 5))
			if next := mustInsert(t, k, 1, list(599, 600), at(time, 5)); next[0].Count != 600 || next[1].Count != 600 {
				t.Errorf("kind %d: the time %d makes %s", k, time, briefly(next))
			}
		}
		for _, time := range []int{8, 9, 10, 11} {
			rejectInsert(t, k, 1, list(3, 600), at(time, 5))
			if next := mustInsert(t, k, 1, list(600, 599), at(time, 5)); next[0].Count != 600 || next[1].Count != 600 {
				t.Errorf("kind %d: the time %d makes %s", k, time, briefly(next))
			}
		}
		for _, time := range []int{0, 1, 2, 12, 400} {
			if next := mustInsert(t, k, 1, list(600, 600), at(time, 5)); len(next) != 3 {
				t.Errorf("kind %d: the time %d makes %s", k, time, briefly(next))
			}
		}
		checkClose(t, k, 1, list(600, 600), 8)
	}
}

// TestSessionsNodes: sessions with as many times as a tree may have.
func TestSessionsNodes(t *testing.T) {
	for k := 1; k <= 10; k++ {
		full := []impl.Session{sessionOf(k, rising(50, 100), 100)}
		for _, time := range []int{49, 150} {
			rejectInsert(t, k, 1, full, at(time, 5))
		}
		for _, time := range []int{50, 99, 149} {
			if next := mustInsert(t, k, 1, full, at(time, 5)); len(next) != 1 || next[0].Count != 101 {
				t.Errorf("kind %d: the time %d makes %s", k, time, briefly(next))
			}
		}
		for _, time := range []int{0, 48, 151, 400} {
			if next := mustInsert(t, k, 1, full, at(time, 5)); len(next) != 2 {
				t.Errorf("kind %d: the time %d makes %s", k, time, briefly(next))
			}
		}
		for _, first := range []int{1, 49, 50, 98, 99, 100} {
			for _, all := range []int{99, 100, 101} {
				if second := all - first; second > 0 {
					list := []impl.Session{sessionOf(k, rising(0, first), first), sessionOf(k, rising(first+1, second), second)}
					if all >= 100 {
						rejectInsert(t, k, 1, list, at(first, 5))
						continue
					}
					next := mustInsert(t, k, 1, list, at(first, 5))
					if len(next) != 1 || len(impl.TreeTimes(next[0].Tree)) != 100 {
						t.Errorf("kind %d: %d and %d times make %s", k, first, second, briefly(next))
					}
				}
			}
		}
	}
}

// TestSessionsAggLimits: sessions whose aggregate would be past a limit, with an
// event and when they are joined.
func TestSessionsAggLimits(t *testing.T) {
	leaf := func(time int, v impl.Value) impl.Session {
		tree := impl.Tree{Time: time, Item: v, Agg: v, Height: 1, Kids: make([]impl.Tree, 2)}
		return impl.Session{From: time, To: time, Count: 1, Tree: tree}
	}
	cases := []struct {
		k     int
		value func(count int) impl.Value
		most  int
	}{
		{impl.KindCount, func(count int) impl.Value { return value(count, 0, 0) }, 1000000},
		{impl.KindMean, func(count int) impl.Value { return value(7, count, 0) }, 10000},
		{impl.KindPlace, func(count int) impl.Value { return value(5, 0, count) }, 1000000},
	}
	for _, c := range cases {
		list := func(first, second int) []impl.Session {
			return []impl.Session{leaf(5, c.value(first)), leaf(7, c.value(second))}
		}
		for _, first := range []int{1, c.most / 2, c.most - 2} {
			next := mustInsert(t, c.k, 1, list(first, c.most-1-first), at(6, 5))
			if len(next) != 1 || next[0].Tree.Agg.X+next[0].Tree.Agg.Y+next[0].Tree.Agg.Z < c.most {
				t.Errorf("kind %d: the sessions are %s", c.k, briefly(next))
			}
			rejectInsert(t, c.k, 1, list(first, c.most-first), at(6, 5))
			rejectInsert(t, c.k, 1, list(first, c.most), at(6, 5))
			rejectInsert(t, c.k, 1, list(c.most, first), at(6, 5))
		}
		rejectInsert(t, c.k, 1, list(c.most, c.most), at(6, 5))
		for _, time := range []int{4, 5} {
			mustInsert(t, c.k, 1, list(c.most-1, c.most), at(time, 5))
			rejectInsert(t, c.k, 1, list(c.most, 1), at(time, 5))
		}
		for _, time := range []int{7, 8} {
			mustInsert(t, c.k, 1, list(c.most, c.most-1), at(time, 5))
			rejectInsert(t, c.k, 1, list(1, c.most), at(time, 5))
		}
		for _, time := range []int{0, 3, 9} {
			mustInsert(t, c.k, 1, list(c.most, c.most), at(time, 5))
		}
	}
	// A session whose aggregate is at the limit can be joined if nothing is counted.
	list := []impl.Session{leaf(5, value(5, 5, 1000000)), leaf(7, value(5, 5, 1))}
	if next := mustInsert(t, impl.KindRise, 1, list, at(6, 5)); next[0].Tree.Agg != value(5, 5, 1000000) {
		t.Errorf("the sessions are %s", briefly(next))
	}
	rejectInsert(t, impl.KindRise, 1, list, at(6, 6))
	rejectInsert(t, impl.KindRise, 1, list, at(6, 4))
}

// TestSessionNumbers: aggregates of no items have no number, for some kinds.
func TestSessionNumbers(t *testing.T) {
	numbers := []int{0, 0, -1, -1, -1, -1, -1, 1, 0, -1}
	for k := 1; k <= 10; k++ {
		none := direct(k, nil)
		kids := []impl.Tree{{Time: 3, Item: none, Agg: none, Height: 1, Kids: make([]impl.Tree, 2)}, {}}
		empty := impl.Session{From: 3, To: 5, Count: 600, Tree: impl.Tree{Time: 5, Item: none, Agg: none, Height: 2, Kids: kids}}
		list := []impl.Session{sessionOf(k, full(1, 0), 1), empty, sessionOf(k, full(2, 8), 3)}
		first, last := itemsFor(full(1, 0)), itemsFor(full(2, 8))
		want := []int{directNumber(k, first[0]), numbers[k-1], directNumber(k, slices.Concat(last[8], last[9], last[10]))}
		got, ok := impl.SessionNumbers(k, 2, list)
		if !ok || !slices.Equal(got, want) {
			t.Errorf("SessionNumbers(%d, 2, %s) = %v, %v, not %v", k, briefly(list), got, ok, want)
		}
		wantClosed(t, k, 2, list, 8, 1, want[:2]...)
		wantClosed(t, k, 2, list, 1000, 0, want...)
	}
}

// TestSessionAt: times in sessions and between them, and lists that are not valid.
func TestSessionAt(t *testing.T) {
	list := mustSessions(t, impl.KindSum, 5, []impl.Event{at(3, 1), at(20, 2), at(12, 4), at(16, 8), at(40, 1)})
	for time, index := range map[int]int{-1: -1, 0: -1, 2: -1, 3: 0, 4: -1, 8: -1, 11: -1, 12: 1, 13: 1, 16: 1, 18: 1, 20: 1, 21: -1, 39: -1, 40: 2, 41: -1, 400: -1, 401: -1, math.MinInt: -1, math.MaxInt: -1} {
		wantPlace(t, list, time, index)
	}
	s := func(from, to int) impl.Session { return impl.Session{From: from, To: to} }
	least, most := math.MinInt, math.MaxInt
	cases := []struct {
		list []impl.Session
		want map[int]int
	}{
		{nil, map[int]int{0: -1, 5: -1, least: -1, most: -1}},
		{[]impl.Session{{}}, map[int]int{-1: -1, 0: 0, 1: -1}},
		{[]impl.Session{{}, {}}, map[int]int{0: 0}},
		// Sessions that overlap, that are not in order, and that end before they begin.
		{[]impl.Session{s(5, 9), s(7, 12), s(0, 20)}, map[int]int{4: 2, 5: 0, 7: 0, 9: 0, 10: 1, 12: 1, 13: 2, 20: 2, 21: -1}},
		{[]impl.Session{s(30, 40), s(1, 2)}, map[int]int{1: 1, 2: 1, 3: -1, 30: 0, 40: 0}},
		{[]impl.Session{s(9, 5), s(7, 7)}, map[int]int{5: -1, 6: -1, 7: 1, 9: -1}},
		{[]impl.Session{s(-9, -5), s(1000, 99999)}, map[int]int{-9: 0, -7: 0, -5: 0, -4: -1, 999: -1, 1000: 1, 50000: 1, 99999: 1}},
		{[]impl.Session{s(most, least), s(least, least), s(most, most), s(least, most)}, map[int]int{least: 1, most: 2, 0: 3}},
		{append(slices.Repeat([]impl.Session{s(1, 0)}, 1000), s(0, 1)), map[int]int{0: 1000, 1: 1000, 2: -1}},
	}
	for _, c := range cases {
		for time, index := range c.want {
			before := cloneSessions(c.list)
			wantPlace(t, c.list, time, index)
			if !sameSessions(c.list, before) {
				t.Errorf("SessionAt changes %s to %s", briefly(before), briefly(c.list))
			}
		}
	}
}

// TestCloseSessions: marks that just close sessions, and such that just do not, by hand.
func TestCloseSessions(t *testing.T) {
	k, gap := impl.KindSum, 5
	list := mustSessions(t, k, gap, []impl.Event{at(3, 1), at(12, 4), at(17, 2), at(20, 8), at(26, 16)})
	for _, mark := range []int{0, 1, 3, 7, 8} {
		wantClosed(t, k, gap, list, mark, 3)
	}
	for _, mark := range []int{9, 10, 12, 20, 24, 25} {
		wantClosed(t, k, gap, list, mark, 2, 1)
	}
	for _, mark := range []int{26, 27, 30, 31} {
		wantClosed(t, k, gap, list, mark, 1, 1, 14)
	}
	for _, mark := range []int{32, 33, 400, 999, 1000} {
		wantClosed(t, k, gap, list, mark, 0, 1, 14, 16)
	}
	// An event as late as the mark would still be near a session that just stays.
	for mark := range 401 {
		rest, closed, _ := impl.CloseSessions(k, gap, list, mark)
		next := mustInsert(t, k, gap, list, at(mark, 50))
		if len(rest) > 0 && rest[0].To < mark-gap || !sameSessions(next[:len(closed)], list[:len(closed)]) {
			t.Errorf("the mark %d closes %v, and leaves %s", mark, closed, briefly(rest))
		}
	}
	// With a gap of 0 and of 100, at the last time.
	for _, c := range [][2]int{{0, 400}, {1, 401}, {99, 499}, {100, 500}} {
		list := mustSessions(t, impl.KindCount, c[0], []impl.Event{at(400, 7), at(400, 8)})
		wantClosed(t, impl.KindCount, c[0], list, c[1], 1)
		wantClosed(t, impl.KindCount, c[0], list, c[1]+1, 0, 2)
	}
	list = mustSessions(t, impl.KindCount, 0, []impl.Event{at(0, 7)})
	wantClosed(t, impl.KindCount, 0, list, 0, 1)
	wantClosed(t, impl.KindCount, 0, list, 1, 0, 1)
	for k := 1; k <= 10; k++ {
		for _, list := range [][]impl.Session{nil, mustSessions(t, k, gap, eventsAt([]int{3, 9, 200, 400})), apartBy(t, k, gap, 60, 6)} {
			for _, mark := range notMarks {
				rejectClose(t, k, gap, list, mark)
			}
			for mark := range 1001 {
				if mark%10 == k%10 || mark < 20 || mark > 990 {
					checkClose(t, k, gap, list, mark)
				}
			}
		}
	}
}

// TestCloseAll: sessions that are closed one by one have all numbers, and go on
// as if the others had never been, as long as no event comes before the mark.
func TestCloseAll(t *testing.T) {
	for k := 1; k <= 10; k++ {
		for n, events := range eventLists() {
			gap := []int{0, 1, 2, 3, 6, 7, 40}[(n+k)%7]
			var list []impl.Session
			var numbers []int
			for _, e := range events { // They are in order.
				list = mustInsert(t, k, gap, list, e)
				rest, closed, ok := impl.CloseSessions(k, gap, list, e.Time)
				if !ok || len(rest) == 0 {
					t.Fatalf("CloseSessions(%d, %d, %s, %d) = %s, %v, %v", k, gap, briefly(list), e.Time, briefly(rest), closed, ok)
				}
				list = rest
				numbers = append(numbers, closed...)
			}
			if len(list) > 1 {
				t.Errorf("kind %d, gap %d: %s stay", k, gap, briefly(list))
			}
			rest, closed, ok := impl.CloseSessions(k, gap, list, 1000)
			numbers = append(numbers, closed...)
			want, _ := impl.SessionNumbers(k, gap, mustSessions(t, k, gap, events))
			if !ok || len(rest) != 0 || !slices.Equal(numbers, want) {
				t.Errorf("kind %d, gap %d: the numbers of %v are %v, not %v", k, gap, events, numbers, want)
			}
		}
	}
}

// roomySessions are sessions in memory of their own, with spare capacity that is not empty.
func roomySessions(list []impl.Session) []impl.Session {
	junk := impl.Session{From: -7, To: -7, Count: -7, Tree: filled(impl.KindSum, full(1, 7))}
	roomy := append(slices.Clone(list), slices.Repeat([]impl.Session{junk}, 70)...)
	for i, s := range list {
		roomy[i].Tree = roomyTree(s.Tree)
	}
	return roomy[:len(list)]
}

// wholeSessions is a copy of sessions with their spare capacity.
func wholeSessions(list []impl.Session) []impl.Session {
	list = slices.Clone(list[:cap(list)])
	for i := range list {
		list[i].Tree = wholeTree(list[i].Tree)
	}
	return list
}

// spoilSessions writes on all memory of sessions, their spare capacity as well.
func spoilSessions(list []impl.Session) {
	list = list[:cap(list)]
	for i := range list {
		spoilTree(list[i].Tree)
		list[i] = impl.Session{From: -9, To: -9, Count: -9}
	}
}

// treesOf are the trees of lists of sessions, with those of the spare capacity.
func treesOf(lists ...[]impl.Session) []impl.Tree {
	var trees []impl.Tree
	for _, list := range lists {
		for _, s := range list[:cap(list)] {
			trees = append(trees, s.Tree)
		}
	}
	return trees
}

// ownLists are lists of sessions of a kind for which the gap is 2.
func ownLists(t *testing.T, k int) [][]impl.Session {
	t.Helper()
	lists := [][]impl.Session{
		nil,
		{},
		{sessionOf(k, full(1, 5), 1)},
		{sessionOf(k, full(2, 4), 3), sessionOf(k, leaning(4, 10, 0), 20), sessionOf(k, full(1, 20), 9), sessionOf(k, full(3, 30), 7)},
		apartBy(t, k, 2, 60, 6),
	}
	for _, events := range eventLists()[4:8] {
		lists = append(lists, mustSessions(t, k, 2, events))
	}
	return lists
}

// TestSessionsOwn: results have memory of their own in every call, also the trees
// of sessions that stay as they were, and arguments keep theirs, also what is
// beyond their length.
func TestSessionsOwn(t *testing.T) {
	for k := 1; k <= 10; k++ {
		for _, plain := range ownLists(t, k) {
			for _, time := range []int{0, 3, 5, 8, 9, 18, 19, 25, 28, 40, 200, 400} {
				if _, ok := impl.AddToSessions(k, 2, plain, at(time, 7)); ok {
					checkSessionsOwn(t, plain, func(list []impl.Session) []impl.Session { return mustInsert(t, k, 2, list, at(time, 7)) })
				}
			}
			for _, mark := range []int{0, 8, 9, 50, 200, 1000} {
				checkSessionsOwn(t, plain, func(list []impl.Session) []impl.Session {
					rest, _, _ := impl.CloseSessions(k, 2, list, mark)
					return rest
				})
				list := roomySessions(plain)
				rest, closed, _ := impl.CloseSessions(k, 2, list, mark)
				wantRest, wantClosed := cloneSessions(rest), slices.Clone(closed)
				spoilSessions(list)
				if !slices.Equal(closed, wantClosed) || !sameSessions(rest, wantRest) {
					t.Fatalf("kind %d: results of CloseSessions share memory", k)
				}
				spoilNumbers(closed)
				if !sameSessions(rest, wantRest) {
					t.Fatalf("kind %d: results of CloseSessions share memory", k)
				}
			}
			numbers, _ := impl.SessionNumbers(k, 2, plain)
			want := slices.Clone(numbers)
			spoilNumbers(numbers)
			if again, _ := impl.SessionNumbers(k, 2, plain); !slices.Equal(again, want) {
				t.Fatalf("kind %d: results of SessionNumbers share memory", k)
			}
		}
	}
}

func checkSessionsOwn(t *testing.T, plain []impl.Session, next func(list []impl.Session) []impl.Session) {
	t.Helper()
	list := roomySessions(plain)
	before := wholeSessions(list)
	first, second := next(list), next(list)
	want := cloneSessions(first)
	// All of the spare sessions of list have the same tree.
	checkApart(t, "sessions", treesOf(list[:len(list):len(list)+1], first, second)...)
	if !sameSessions(wholeSessions(list), before) {
		t.Fatalf("a function writes on %s", briefly(plain))
	}
	spoilSessions(first)
	if !sameSessions(wholeSessions(list), before) {
		t.Fatalf("a result for %s shares memory with it", briefly(plain))
	}
	if !sameSessions(second, want) {
		t.Fatalf("two results for %s share memory", briefly(plain))
	}
	spoilSessions(list)
	if !sameSessions(second, want) {
		t.Fatalf("a result for %s keeps memory of it", briefly(plain))
	}
}

// TestSessionsOfOwn: the sessions of events have memory of their own in every
// call, and the events keep theirs.
func TestSessionsOfOwn(t *testing.T) {
	for k := 1; k <= 10; k++ {
		for n, plain := range eventLists() {
			events := roomyEvents(shuffled(plain, n))
			before := slices.Clone(events[:cap(events)])
			first, second := mustSessions(t, k, n, events), mustSessions(t, k, n, events)
			want := cloneSessions(first)
			checkApart(t, "sessions", treesOf(first, second)...)
			if !slices.Equal(events[:cap(events)], before) {
				t.Fatalf("SessionsOf(%d, %d, %v) writes on its argument", k, n, plain)
			}
			spoilSessions(first)
			spoilEvents(events)
			if !sameSessions(second, want) {
				t.Fatalf("SessionsOf(%d, %d, %v): results share memory", k, n, plain)
			}
		}
	}
}
