/-
  Words of changes: their bytes, in the program and in the model.
-/
import Derived.Test.YthkokeeciicdnaaMa
import Derived.Test.YthkokeeciicdnaaRows
import Derived.Test.YthkokeeciicdnaaA
import Derived.Test.YthkokeeciicdnaaSh
import Derived.Lib.ItoaNum
import Derived.Lib.Join
import Derived.Lib.SmallJoins
import Derived.Handy
import Derived.Lib.Hide
import Derived.IntWalk
import Derived.Laws.BytesString
namespace Go.Proofs.Ythkokeeciicdnaa
set_option linter.unusedSimpArgs false
set_option linter.unusedVariables false
open Go.RowKit
theorem cat (a b : List UInt8) : (⟨a.toArray⟩ : ByteArray) ++ ⟨b.toArray⟩ = ⟨(a ++ b).toArray⟩ := by
  apply ByteArray.ext
  apply Array.ext'
  rw [Go.Joins.data_append]
theorem dec_one (i : Nat) (h : i < 10) : Lib.decDigits i = [UInt8.ofNat (48 + i)] := by rw [Lib.decDigits, dif_pos h]
theorem dec_two (i : Nat) (h : 10 ≤ i) (h2 : i < 100) : Lib.decDigits i = [UInt8.ofNat (48 + i / 10), UInt8.ofNat (48 + i % 10)] := by
  rw [Lib.decDigits, dif_neg (by omega), dec_one (i / 10) (by omega)]
  rfl
theorem dec_len (i : Nat) (h : i < 100) : (Lib.decDigits i).length ≤ 2 := by
  by_cases h1 : i < 10
  · rw [dec_one i h1]; simp
  · rw [dec_two i (by omega) h]; simp
/-- The bytes of a change's word. -/
def Agg.word (o : Bool × Int) : List UInt8 := if o.1 then 43 :: Lib.decDigits o.2.toNat else [45]
theorem Agg.word_len (o : Bool × Int) (h : Agg.opOk o = true) : (Agg.word o).length ≤ 3 := by
  obtain ⟨p, x⟩ := o
  cases p
  · simp [Agg.word]
  · simp only [Agg.opOk, if_true, Agg.isItem, decide_eq_true_eq] at h
    have := dec_len x.toNat (by omega)
    simp [Agg.word]; omega
/-- The bytes of the text of changes. -/
def Agg.text (l : List (Bool × Int)) : List UInt8 := Lib.join (l.map Agg.word) [32]
theorem push_word (i : Nat) (hi : i ≤ 96) (w : World) :
    Calls Try.prog 148 #[.agg #[.int .i64 (i : Int)]] w fun e w' => e = .returned (.string ⟨(Agg.word (true, (i : Int))).toArray⟩) ∧ Below w.heap.size w w' := by
  have HI := Lib.hid (fun w => Try.strconv_Itoa_small i (by omega) w)
  have hl := dec_len i (by omega)
  have hn : ¬ (9223372036854775807 < 1 + (Lib.decDigits i).length) := by omega
  have hc := cat [43] (Lib.decDigits i)
  have HC := Lib.hid (show (⟨#[43]⟩ : ByteArray) ++ ⟨(Lib.decDigits i).toArray⟩ = ⟨(Agg.word (true, (i : Int))).toArray⟩ from hc)
  clear hc hl
  go_enter Try.func148, Try.ntmps148
  go_wp2_with fail
  refine (HI.out _).mono ?_
  rintro e w1 ⟨rfl, rfl⟩
  go_wp2_with fail
  go_returns
  exact ⟨by rw [HC.out]; rfl, (by first | (go_grown; done) | (refine below_drewN ?_ _; go_grown; done) | (refine (below_drewN _ ?_); go_grown; done))⟩
theorem take_word (w : World) :
    Calls Try.prog 165 #[.agg #[]] w fun e w' => e = .returned (.string ⟨(Agg.word (false, 0)).toArray⟩) ∧ Below w.heap.size w w' := by
  go_enter Try.func165, Try.ntmps165
  go_wp2_with fail
  go_returns
  exact ⟨rfl, (by first | (go_grown; done) | (refine below_drewN ?_ _; go_grown; done) | (refine (below_drewN _ ?_); go_grown; done))⟩
theorem conv_byte (W : World) (x : Int) : Sem.run Try.prog (convert 22 9 (.slice (some ⟨W.heap.size, 0, none⟩) 1 1)) (W.alloc (.cells #[.int .u8 x] 5)) = .ok (.string ⟨[UInt8.ofNat x.toNat].toArray⟩) (W.alloc (.cells #[.int .u8 x] 5)) := by
  have h := run_bytesToString (P := Try.prog) (W.alloc (.cells #[.int .u8 x] 5)) ⟨W.heap.size, 0, none⟩ 1 1 [x] (by
    simp [loadCells, go_sem, World.cells?, World.cell?_alloc_new])
  have h2 := run_convert_bytes_string (P := Try.prog) (W.alloc (.cells #[.int .u8 x] 5)) 22 9 5 (some ⟨W.heap.size, 0, none⟩) 1 1 Try.underlying22 Try.underlying5 Try.underlying9
  rw [h2, h]
  rfl
theorem one_byte (i : Nat) (h : i < 10) : (⟨#[48 + UInt8.ofNat i]⟩ ++ ⟨#[]⟩ : ByteArray) = ⟨(Lib.decDigits i).toArray⟩ := by
  rw [dec_one i h]
  have := cat [48 + UInt8.ofNat i] []
  simpa using this
set_option maxRecDepth 8000 in
set_option maxHeartbeats 1000000 in
theorem l16Dec_small (i : Nat) (hi : i < 10) (w : World) :
    Calls Try.prog 36 #[.int .i64 (i : Int)] w fun e w' => e = .returned (.string ⟨(Lib.decDigits i).toArray⟩) ∧ Below w.heap.size w w' := by
  have h1 : ¬ ((i : Int) < 0) := by omega
  have h2 : ¬ ((9 : Int) < (i : Int)) := by omega
  have hd := dec_one i hi
  have HD := Lib.hid hd
  clear hd
  have hcv := conv_byte
  go_enter Try.func36, Try.ntmps36
  go_wp2_with fail
  go_loopw [0, 3] (fun nv ov wr => nv = .int .i64 (i : Int) ∧ ov = .string ⟨#[]⟩ ∧ wr = w) (fun _ _ _ => 0)
  case atStart => exact ⟨rfl, rfl, rfl⟩
  case round =>
    obtain ⟨rfl, rfl, rfl⟩ := hrel
    go_wp2_with fail
    go_returns
    exact ⟨by show Ending.returned (Value.string _) = _; rw [one_byte i hi], (by first | (go_grown; done) | (refine below_drewN ?_ _; go_grown; done) | (refine (below_drewN _ ?_); go_grown; done))⟩
theorem no_more (x : UInt8) : (⟨#[x]⟩ ++ ⟨#[]⟩ : ByteArray) = ⟨#[x]⟩ := by
  have := cat [x] []
  simpa using this
theorem two_bytes (i : Nat) (h : 10 ≤ i) (h2 : i < 100) : (⟨#[48 + UInt8.ofNat (i / 10)]⟩ ++ ⟨#[48 + UInt8.ofNat (i % 10)]⟩ : ByteArray) = ⟨(Lib.decDigits i).toArray⟩ := by
  rw [dec_two i h h2]
  have := cat [48 + UInt8.ofNat (i / 10)] [48 + UInt8.ofNat (i % 10)]
  simpa using this
set_option maxRecDepth 8000 in
set_option maxHeartbeats 1000000 in
theorem l16Dec_two (i : Nat) (hi : 10 ≤ i) (hi2 : i ≤ 96) (w : World) :
    Calls Try.prog 36 #[.int .i64 (i : Int)] w fun e w' => e = .returned (.string ⟨(Lib.decDigits i).toArray⟩) ∧ Below w.heap.size w w' := by
  have h1 : ¬ ((i : Int) < 0) := by omega
  have hcv := conv_byte
  have HT := Lib.hid (two_bytes i hi (by omega))
  go_enter Try.func36, Try.ntmps36
  go_wp2_with fail
  go_loopw [0, 3] (fun nv ov wr => (nv = .int .i64 (i : Int) ∧ ov = .string ⟨#[]⟩ ∧ wr = w) ∨ (nv = .int .i64 ((i / 10 : Nat) : Int) ∧ ov = .string ⟨#[48 + UInt8.ofNat (i % 10)]⟩ ∧ Hid (Below w.heap.size w wr))) (fun nv _ _ => (intOf nv).toNat)
  case atStart => exact .inl ⟨rfl, rfl, rfl⟩
  case round =>
    rcases hrel with ⟨rfl, rfl, rfl⟩ | ⟨rfl, rfl, hw⟩
    · have h9 : (9 : Int) < (i : Int) := by omega
      go_wp2_with fail
      go_roundw
      case rel => exact .inr ⟨by simp, by rw [no_more], Lib.hid ((Below.refl _ _).alloc (Nat.le_refl _) _)⟩
      case measure => simp [intOf]; omega
    · have h9 : ¬ ((9 : Int) < ((i / 10 : Nat) : Int)) := by omega
      have hs := hw.out.size
      go_wp2_with fail
      go_returns
      exact ⟨by show Ending.returned (Value.string _) = _; rw [HT.out], hw.out.alloc hs _⟩
theorem l16Dec_any (x : Int) (h0 : 0 ≤ x) (h1 : x ≤ 96) (w : World) :
    Calls Try.prog 36 #[.int .i64 x] w fun e w' => e = .returned (.string ⟨(Lib.decDigits x.toNat).toArray⟩) ∧ Below w.heap.size w w' := by
  obtain ⟨i, rfl⟩ := Int.eq_ofNat_of_zero_le h0
  by_cases hi : i < 10
  · exact l16Dec_small i hi w
  · exact l16Dec_two i (by omega) (by omega) w
/-! The text of changes, one after the other. -/
theorem Agg.text_nil : Agg.text [] = [] := rfl
theorem join_snoc (xs : List (List UInt8)) (x sep : List UInt8) : Lib.join (xs ++ [x]) sep = (if xs = [] then [] else Lib.join xs sep ++ sep) ++ x := by
  induction xs with
  | nil => simp [Lib.join_one]
  | cons y r ih =>
    cases r with
    | nil => simp [Lib.join, List.intercalate, List.intersperse]
    | cons z r =>
      have e1 : Lib.join ((y :: z :: r) ++ [x]) sep = y ++ sep ++ Lib.join ((z :: r) ++ [x]) sep := by simp [Lib.join, List.intercalate, List.intersperse]
      have e2 : Lib.join (y :: z :: r) sep = y ++ sep ++ Lib.join (z :: r) sep := by simp [Lib.join, List.intercalate, List.intersperse]
      rw [e1, ih, if_neg (by simp), if_neg (by simp), e2]
      simp
theorem Agg.text_step (l : List (Bool × Int)) (j : Nat) (h : j < l.length) : Agg.text (l.take (j + 1)) = (if j = 0 then [] else Agg.text (l.take j) ++ [32]) ++ Agg.word (Agg.opAt l j) := by
  have e : l.take (j + 1) = l.take j ++ [Agg.opAt l j] := by
    rw [List.take_succ_eq_append_getElem h]
    simp [Agg.opAt, h]
  unfold Agg.text
  rw [e, List.map_append, List.map_singleton, join_snoc]
  congr 1
  by_cases h0 : j = 0
  · subst h0; simp
  · rw [if_neg h0, if_neg (by intro e; rw [← List.length_eq_zero_iff, List.length_map, List.length_take] at e; omega)]
theorem Agg.text_len (l : List (Bool × Int)) (ha : Agg.allOk l l.length = true) : ∀ j, j ≤ l.length → (Agg.text (l.take j)).length ≤ 4 * j
  | 0, _ => by simp [Agg.text_nil]
  | j + 1, h => by
    rw [Agg.text_step l j (by omega)]
    have h1 := Agg.text_len l ha j (by omega)
    have h2 := Agg.word_len _ (Agg.opOk_at (i := j) (by omega) ha)
    by_cases h0 : j = 0
    · subst h0; simp; omega
    · rw [if_neg h0]; simp; omega
end Go.Proofs.Ythkokeeciicdnaa
