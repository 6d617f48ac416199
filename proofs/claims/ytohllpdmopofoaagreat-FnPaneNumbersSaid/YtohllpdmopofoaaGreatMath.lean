/-
  Plain mathematics of aggregates: ten kinds, their combination, folds, numbers, inverses. It imports nothing of the program.
-/
namespace Go.Proofs.YtohllpdmopofoaaGreat.Agg
set_option linter.unusedSimpArgs false

/-- An aggregate: its three fields. -/
structure V where
  x : Int
  y : Int
  z : Int
deriving DecidableEq

theorem V.ext' {a b : V} (h1 : a.x = b.x) (h2 : a.y = b.y) (h3 : a.z = b.z) : a = b := by
  cases a; cases b; simp_all

def zero : V := ⟨0, 0, 0⟩

def isKind (k : Int) : Bool := decide (1 ≤ k ∧ k ≤ 10)
def isItem (n : Int) : Bool := decide (0 ≤ n ∧ n ≤ 96)

/-- ValueValid at a kind from 1 to 10. -/
def ok (k : Int) (v : V) : Bool :=
  if k = 1 then decide (0 ≤ v.x ∧ v.x ≤ 96 ∧ v.y = 0 ∧ v.z = 0)
  else if k = 2 then decide (0 ≤ v.x ∧ v.x ≤ 1000000 ∧ v.y = 0 ∧ v.z = 0)
  else if k = 7 then decide (0 ≤ v.y ∧ v.y ≤ 10000 ∧ 0 ≤ v.x ∧ v.x ≤ 96 * v.y ∧ v.z = 0)
  else if k = 8 then decide (1 ≤ v.x ∧ v.x ≤ 96 ∧ 0 ≤ v.y ∧ v.y ≤ 96 ∧ v.z = 0)
  else if k = 9 then decide ((v.x = 0 ∧ v.y = 0 ∧ v.z = 0) ∨ (0 ≤ v.x ∧ v.x ≤ 96 ∧ 0 ≤ v.y ∧ v.y ≤ 96 ∧ 1 ≤ v.z ∧ v.z ≤ 1000000))
  else if k = 10 then decide ((v.x = 0 ∧ v.y = 0 ∧ v.z = 0) ∨ (0 ≤ v.x ∧ v.x ≤ 96 ∧ 1 ≤ v.z ∧ v.z ≤ 1000000 ∧ 0 ≤ v.y ∧ v.y ≤ v.z - 1))
  else decide ((v.x = 0 ∧ v.y = 0 ∧ v.z = 0) ∨ (0 ≤ v.x ∧ v.x ≤ 96 ∧ v.y = 1 ∧ v.z = 0))

def valid (k : Int) (v : V) : Bool := isKind k && ok k v

def unit (k : Int) : V := if k = 8 then ⟨1, 0, 0⟩ else ⟨0, 0, 0⟩

def lift (k n : Int) : V :=
  if k = 1 then ⟨n, 0, 0⟩
  else if k = 2 then ⟨1, 0, 0⟩
  else if k = 8 then ⟨n % 9 + 1, n, 0⟩
  else if k = 9 then ⟨n, n, 1⟩
  else if k = 10 then ⟨n, 0, 1⟩
  else ⟨n, 1, 0⟩

/-- Combination of two valid aggregates of a kind from 1 to 10. -/
def comb (k : Int) (a b : V) : V :=
  if k = 1 then ⟨(a.x + b.x) % 97, 0, 0⟩
  else if k = 2 then ⟨a.x + b.x, 0, 0⟩
  else if k = 7 then ⟨a.x + b.x, a.y + b.y, 0⟩
  else if k = 8 then ⟨a.x * b.x % 97, (a.y * b.x + b.y) % 97, 0⟩
  else if k = 9 then
    if a.z = 0 then b else if b.z = 0 then a
    else ⟨a.x, b.y, if a.y < b.x then a.z + b.z else a.z + b.z - 1⟩
  else if k = 10 then
    if a.z = 0 then b else if b.z = 0 then a
    else if a.x < b.x then ⟨b.x, a.z + b.y, a.z + b.z⟩ else ⟨a.x, a.y, a.z + b.z⟩
  else if a.y = 0 then b
  else if b.y = 0 then a
  else if k = 3 then (if b.x < a.x then b else a)
  else if k = 4 then (if a.x < b.x then b else a)
  else if k = 5 then a
  else b

/-- The number of a valid aggregate, and whether it has one. -/
def low (k : Int) (v : V) : Int × Bool :=
  if k = 1 ∨ k = 2 then (v.x, true)
  else if k = 8 then ((v.x + v.y) % 97, true)
  else if k = 7 then (if v.y = 0 then (0, false) else (v.x / v.y, true))
  else if k = 9 then (if v.z = 0 then (0, true) else (v.z - 1, true))
  else if k = 10 then (v.y, decide (v.z ≠ 0))
  else (v.x, decide (v.y ≠ 0))

def comm (k : Int) : Bool := decide (1 ≤ k ∧ k ≤ 4 ∨ k = 7)

/-- n to the power i, modulo 97. -/
def pow97 (n : Int) : Nat → Int
  | 0 => 1
  | i + 1 => pow97 n i * n % 97
/-- The inverse of n modulo 97. -/
def inv (n : Int) : Int := pow97 n 95

/-- What is left of a whole without its first part, for the kinds 1, 2, 7 and 8. -/
def rest (k : Int) (a w : V) : V :=
  if k = 1 then ⟨(w.x - a.x) % 97, 0, 0⟩
  else if k = 2 then ⟨w.x - a.x, 0, 0⟩
  else if k = 7 then ⟨w.x - a.x, w.y - a.y, 0⟩
  else ⟨w.x * inv a.x % 97, (w.y - a.y * (w.x * inv a.x % 97)) % 97, 0⟩

def removes (k : Int) : Bool := decide (k = 1 ∨ k = 2 ∨ k = 7 ∨ k = 8)

def fold (k : Int) (l : List Int) : V := l.foldl (fun v n => comb k v (lift k n)) (unit k)
def itemsOk (l : List Int) : Bool := decide (l.length ≤ 60) && l.all isItem

/-! The answers of the exported functions: a value and whether there is one. -/
def give (b : Bool) (v : V) : V × Bool := if b then (v, true) else (zero, false)
def aLift (k n : Int) : V × Bool := give (isKind k && isItem n) (lift k n)
def aUnit (k : Int) : V × Bool := give (isKind k) (unit k)
def aComb (k : Int) (a b : V) : V × Bool := give (valid k a && valid k b && ok k (comb k a b)) (comb k a b)
def aLow (k : Int) (v : V) : Int × Bool := if valid k v && (low k v).2 then ((low k v).1, true) else (0, false)
def aRest (k : Int) (a w : V) : V × Bool := give (valid k a && valid k w && removes k && ok k (rest k a w)) (rest k a w)
def aFold (k : Int) (l : List Int) : V × Bool := give (isKind k && itemsOk l) (fold k l)

end Go.Proofs.YtohllpdmopofoaaGreat.Agg
