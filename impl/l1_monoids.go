package impl

// Value is an aggregate.
type Value struct {
	X int
	Y int
	Z int
}

// Kinds of aggregates, and limits of items.
const (
	KindSum   = 1
	KindCount = 2
	KindLeast = 3
	KindMost  = 4
	KindFirst = 5
	KindLast  = 6
	KindMean  = 7
	KindMap   = 8
	KindRise  = 9
	KindPlace = 10
	MaxItem   = 96
	MaxSize   = 60
)

// modulus is a prime, so that each factor of a map has an inverse.
const modulus = MaxItem + 1

// Limits of the numbers of items in aggregates.
const (
	maxCount     = 1000000
	maxMeanCount = 10000
)

// kind is what sets a kind of aggregates apart from the others. Apart from
// valid, its methods rely on items and aggregates that are valid, so that the
// exported functions check these once and arithmetic cannot overflow.
type kind interface {
	valid(v Value) bool
	lift(n int) Value
	unit() Value
	combine(a Value, b Value) Value
	lower(v Value) (int, bool)
	commutes() bool
}

// remover is a kind in which a whole and its first part determine the rest.
// The rest is not valid if there is none.
type remover interface {
	kind
	rest(a Value, whole Value) Value
}

// kindOf returns the operations of the kind k.
func kindOf(k int) (kind, bool) {
	switch k {
	case KindSum:
		return sumKind{}, true
	case KindCount:
		return countKind{}, true
	case KindLeast:
		return pickKind[pickLeast]{}, true
	case KindMost:
		return pickKind[pickMost]{}, true
	case KindFirst:
		return pickKind[pickFirst]{}, true
	case KindLast:
		return pickKind[pickLast]{}, true
	case KindMean:
		return meanKind{}, true
	case KindMap:
		return mapKind{}, true
	case KindRise:
		return riseKind{}, true
	case KindPlace:
		return placeKind{}, true
	}
	return nil, false
}

// removerOf returns the operations of the kind k, if the rest is determined in it.
func removerOf(k int) (remover, bool) {
	m, ok := kindOf(k)
	if !ok {
		return nil, false
	}
	if r, ok := m.(remover); ok {
		return r, true
	}
	return nil, false
}

// KindValid reports whether k is a kind of aggregates.
func KindValid(k int) bool {
	_, ok := kindOf(k)
	return ok
}

// ValueValid reports whether v is an aggregate of a kind.
func ValueValid(k int, v Value) bool {
	m, ok := kindOf(k)
	return ok && m.valid(v)
}

// LiftItem returns the aggregate of an item.
func LiftItem(k int, n int) (Value, bool) {
	m, ok := kindOf(k)
	if !ok || !isItem(n) {
		return Value{}, false
	}
	return m.lift(n), true
}

// UnitOf returns the aggregate of no items.
func UnitOf(k int) (Value, bool) {
	m, ok := kindOf(k)
	if !ok {
		return Value{}, false
	}
	return m.unit(), true
}

// CombineValues returns the aggregate of the items of two aggregates, one behind the other.
func CombineValues(k int, a Value, b Value) (Value, bool) {
	m, ok := kindOf(k)
	if !ok || !m.valid(a) || !m.valid(b) {
		return Value{}, false
	}
	return checked(m, m.combine(a, b))
}

// LowerValue returns the number of an aggregate.
func LowerValue(k int, v Value) (int, bool) {
	m, ok := kindOf(k)
	if !ok || !m.valid(v) {
		return 0, false
	}
	return m.lower(v)
}

// Commutes reports whether the order of items does not matter for a kind.
func Commutes(k int) bool {
	m, ok := kindOf(k)
	return ok && m.commutes()
}

// RemoveFirst returns the aggregate of items without those of another one in front.
func RemoveFirst(k int, a Value, whole Value) (Value, bool) {
	m, ok := removerOf(k)
	if !ok || !m.valid(a) || !m.valid(whole) {
		return Value{}, false
	}
	return checked(m, m.rest(a, whole))
}

// FoldItems returns the aggregate of a list of items.
func FoldItems(k int, items []int) (Value, bool) {
	m, ok := kindOf(k)
	if !ok || !areItems(items) {
		return Value{}, false
	}
	v := m.unit()
	for _, n := range items {
		v = m.combine(v, m.lift(n))
	}
	return v, true
}

// checked returns v and true if v is valid, and otherwise what stands for no value.
func checked(m kind, v Value) (Value, bool) {
	if !m.valid(v) {
		return Value{}, false
	}
	return v, true
}

func within(n int, least int, most int) bool {
	return least <= n && n <= most
}

func isItem(n int) bool {
	return within(n, 0, MaxItem)
}

// areItems reports whether items are few enough for a list, and all of them items.
func areItems(items []int) bool {
	return allFit(items, isItem)
}

// allFit reports whether there are few enough elements for a list, and each of them fits.
func allFit[T any](list []T, fits func(element T) bool) bool {
	if len(list) > MaxSize {
		return false
	}
	for _, element := range list {
		if !fits(element) {
			return false
		}
	}
	return true
}

// sumKind is a KindSum: X is the sum, modulo the modulus.
type sumKind struct{}

func (sumKind) valid(v Value) bool {
	return isItem(v.X) && v.Y == 0 && v.Z == 0
}

func (sumKind) lift(n int) Value { return Value{X: n} }

func (sumKind) unit() Value { return Value{} }

func (sumKind) combine(a Value, b Value) Value {
	return Value{X: (a.X + b.X) % modulus}
}

func (sumKind) lower(v Value) (int, bool) { return v.X, true }

func (sumKind) commutes() bool { return true }

func (sumKind) rest(a Value, whole Value) Value {
	return Value{X: lessModulo(whole.X, a.X)}
}

// countKind is a KindCount: X is the number of items.
type countKind struct{}

func (countKind) valid(v Value) bool {
	return within(v.X, 0, maxCount) && v.Y == 0 && v.Z == 0
}

func (countKind) lift(n int) Value { return Value{X: 1} }

func (countKind) unit() Value { return Value{} }

func (countKind) combine(a Value, b Value) Value {
	return Value{X: a.X + b.X}
}

func (countKind) lower(v Value) (int, bool) { return v.X, true }

func (countKind) commutes() bool { return true }

func (countKind) rest(a Value, whole Value) Value {
	return Value{X: whole.X - a.X}
}

// picker tells apart the kinds that keep one of their items.
type picker interface {
	// later reports whether b is kept of the items a and b, of which b is behind a.
	later(a int, b int) bool
	anyOrder() bool
}

type (
	pickLeast struct{}
	pickMost  struct{}
	pickFirst struct{}
	pickLast  struct{}
)

func (pickLeast) later(a int, b int) bool { return b < a }

func (pickLeast) anyOrder() bool { return true }

func (pickMost) later(a int, b int) bool { return b > a }

func (pickMost) anyOrder() bool { return true }

func (pickFirst) later(a int, b int) bool { return false }

func (pickFirst) anyOrder() bool { return false }

func (pickLast) later(a int, b int) bool { return true }

func (pickLast) anyOrder() bool { return false }

// pickKind is a KindLeast, a KindMost, a KindFirst or a KindLast: X is the item
// that P keeps, and Y is 1 if there is one.
type pickKind[P picker] struct {
	pick P
}

func (pickKind[P]) valid(v Value) bool {
	return v == Value{} || isItem(v.X) && v.Y == 1 && v.Z == 0
}

func (pickKind[P]) lift(n int) Value { return Value{X: n, Y: 1} }

func (pickKind[P]) unit() Value { return Value{} }

func (m pickKind[P]) combine(a Value, b Value) Value {
	if a.Y == 0 {
		return b
	}
	if b.Y != 0 && m.pick.later(a.X, b.X) {
		return b
	}
	return a
}

func (pickKind[P]) lower(v Value) (int, bool) { return v.X, v.Y != 0 }

func (m pickKind[P]) commutes() bool { return m.pick.anyOrder() }

// meanKind is a KindMean: X is the sum, and Y the number of items.
type meanKind struct{}

func (meanKind) valid(v Value) bool {
	return within(v.Y, 0, maxMeanCount) && within(v.X, 0, MaxItem*v.Y) && v.Z == 0
}

func (meanKind) lift(n int) Value { return Value{X: n, Y: 1} }

func (meanKind) unit() Value { return Value{} }

func (meanKind) combine(a Value, b Value) Value {
	return Value{X: a.X + b.X, Y: a.Y + b.Y}
}

func (meanKind) lower(v Value) (int, bool) {
	if v.Y == 0 {
		return 0, false
	}
	return v.X / v.Y, true
}

func (meanKind) commutes() bool { return true }

func (meanKind) rest(a Value, whole Value) Value {
	return Value{X: whole.X - a.X, Y: whole.Y - a.Y}
}

// mapKind is a KindMap: it stands for the map that takes a number to X times it
// plus Y, modulo the modulus. X is never 0, so that each map has an inverse.
type mapKind struct{}

func (mapKind) valid(v Value) bool {
	return within(v.X, 1, MaxItem) && isItem(v.Y) && v.Z == 0
}

func (mapKind) lift(n int) Value { return Value{X: n%9 + 1, Y: n} }

func (mapKind) unit() Value { return Value{X: 1} }

func (mapKind) combine(a Value, b Value) Value {
	return Value{X: a.X * b.X % modulus, Y: (a.Y*b.X + b.Y) % modulus}
}

func (mapKind) lower(v Value) (int, bool) { return (v.X + v.Y) % modulus, true }

func (mapKind) commutes() bool { return false }

func (mapKind) rest(a Value, whole Value) Value {
	x := whole.X * inverseOf(a.X) % modulus
	return Value{X: x, Y: lessModulo(whole.Y, a.Y*x%modulus)}
}

// riseKind is a KindRise: X is the first item, Y the last one, and Z minus 1
// says how often an item is greater than the one before it.
type riseKind struct{}

func (riseKind) valid(v Value) bool {
	return v == Value{} || isItem(v.X) && isItem(v.Y) && within(v.Z, 1, maxCount)
}

func (riseKind) lift(n int) Value { return Value{X: n, Y: n, Z: 1} }

func (riseKind) unit() Value { return Value{} }

func (riseKind) combine(a Value, b Value) Value {
	if a.Z == 0 {
		return b
	}
	if b.Z == 0 {
		return a
	}
	z := a.Z + b.Z
	if b.X <= a.Y {
		z--
	}
	return Value{X: a.X, Y: b.Y, Z: z}
}

func (riseKind) lower(v Value) (int, bool) {
	if v.Z == 0 {
		return 0, true
	}
	return v.Z - 1, true
}

func (riseKind) commutes() bool { return false }

// placeKind is a KindPlace: X is the greatest item, Y how many items are before
// the first place that has it, and Z how many there are.
type placeKind struct{}

func (placeKind) valid(v Value) bool {
	return v == Value{} || isItem(v.X) && within(v.Z, 1, maxCount) && within(v.Y, 0, v.Z-1)
}

func (placeKind) lift(n int) Value { return Value{X: n, Z: 1} }

func (placeKind) unit() Value { return Value{} }

func (placeKind) combine(a Value, b Value) Value {
	if a.Z == 0 {
		return b
	}
	if b.Z == 0 {
		return a
	}
	z := a.Z + b.Z
	if b.X > a.X {
		return Value{X: b.X, Y: a.Z + b.Y, Z: z}
	}
	return Value{X: a.X, Y: a.Y, Z: z}
}

func (placeKind) lower(v Value) (int, bool) { return v.Y, v.Z != 0 }

func (placeKind) commutes() bool { return false }

// lessModulo returns a minus b, modulo the modulus, for numbers from 0 to MaxItem.
func lessModulo(a int, b int) int {
	return (a + modulus - b) % modulus
}

// inverseOf returns the number that makes 1 with x, modulo the modulus: as this
// is a prime, a number to the power of the modulus minus 1 is 1.
func inverseOf(x int) int {
	y := 1
	for n := modulus - 2; n > 0; n /= 2 {
		if n%2 == 1 {
			y = y * x % modulus
		}
		x = x * x % modulus
	}
	return y
}
