/- Same, and the library call under it, answer whether two lists are one; old memory stays as it was. -/
import Derived.Test.YtknkclbjocfhiaaDoorPCheck
namespace Go.Proofs.YtknkclbjocfhiaaDoor
open Go.RowKit

def samePr (x y : Pr) : Bool := x.1.toList == y.1.toList && x.2.toList == y.2.toList
set_option maxRecDepth 4000 in
theorem toList_inj {a b : ByteArray} (h : a.toList = b.toList) : a = b := by
  rw [ByteArray.toList_eq, ByteArray.toList_eq] at h
  exact ByteArray.ext (Array.toList_inj.1 h)
set_option maxRecDepth 4000 in
theorem samePr_iff (x y : Pr) : samePr x y = true ↔ x = y := by
  unfold samePr
  constructor
  · intro h
    simp only [Bool.and_eq_true, beq_iff_eq] at h
    exact Prod.ext (toList_inj h.1) (toList_inj h.2)
  · rintro rfl; simp

set_option maxRecDepth 4000 in
theorem struct36 : Tryd.prog.underlying 50 = some (.struct (Tryd.prog.fieldsOf 50)) := by kernel_rfl
set_option maxRecDepth 4000 in
theorem stood36 : Tryd.prog.stoodInHeld 50 = false := by kernel_rfl
set_option maxRecDepth 4000 in
theorem guard36 : Tryd.prog.eqGuardType Tryd.prog.depth 50 = false := by kernel_rfl
set_option maxRecDepth 4000 in
theorem equal36 (a b c d : ByteArray) (w : World) : (Op.equalIn 10000 50 (.agg #[.string a, .string b]) (.agg #[.string c, .string d])).run Tryd.prog w = .ok (a.toList == c.toList && b.toList == d.toList) w := by
  have u9 := Tryd.underlying9
  have a9 := Tryd.isAgg9
  have z9 := Tryd.sizeOf9
  rw [show (10000 : Nat) = 9999 + 1 from rfl, run_equalIn_agg w 9999 50 _ _ struct36 stood36]
  simp only [Program.fieldsOf, Tryd.underlying50]
  go_simp
  by_cases h1 : a.toList = c.toList <;> by_cases h2 : b.toList = d.toList <;> simp [h1, h2]
set_option maxRecDepth 4000 in
theorem neq36 (a b c d : ByteArray) (w : World) : (binOp .neq 50 (.agg #[.string a, .string b]) (.agg #[.string c, .string d])).run Tryd.prog w = .ok (.bool (!(a.toList == c.toList && b.toList == d.toList))) w := by
  rw [run_neq_struct, equal36]; rfl
set_option maxRecDepth 4000 in
theorem eql36 (a b c d : ByteArray) (w : World) : (binOp .eql 50 (.agg #[.string a, .string b]) (.agg #[.string c, .string d])).run Tryd.prog w = .ok (.bool (a.toList == c.toList && b.toList == d.toList)) w := by
  rw [run_eql_struct, equal36]; rfl

set_option maxRecDepth 4000 in
theorem same_of (l m : List Pr) (h : l.length = m.length) (h0 : ∀ j, j < l.length → samePr (prAt l j) (prAt m j) = true) : decide (l = m) = true := by
  rw [decide_eq_true_iff]
  apply List.ext_getElem h
  intro i h1 h2
  have := (samePr_iff _ _).1 (h0 i h1)
  rwa [prAt_eq l i h1, prAt_eq m i h2] at this
set_option maxRecDepth 4000 in
theorem same_not (l m : List Pr) (n : Nat) (_h1 : n < l.length) (h2 : n < m.length) (h : samePr (prAt l n) (prAt m n) = false) : decide (l = m) = false := by
  rw [decide_eq_false_iff_not]
  rintro rfl
  rw [(samePr_iff _ _).2 rfl] at h
  cases h

set_option maxRecDepth 4000 in
set_option maxHeartbeats 2000000 in
theorem pequal_any (A B : Option Addr) (l m : List Pr) (c d : Nat) (w : World) (hl : l.length ≤ 9223372036854775807) (hm : m.length ≤ 9223372036854775807) (hp : PL w w.heap.size A l) (hq : PL w w.heap.size B m) :
    Calls Tryd.prog 79 #[.slice A l.length c, .slice B m.length d] w fun e w' => e = .returned (.bool (decide (l = m))) ∧ Below w.heap.size w w' := by
  by_cases hlm : l.length = m.length
  · have hx : ((l.length : Int) != (m.length : Int)) = false := by simp; omega
    have HL := hd hlm
    clear hlm
    go_enter Tryd.func79, Tryd.ntmps79
    go_wp2
    go_loopw [13] (fun i wr => ∃ n : Nat, n ≤ l.length ∧ i = .int .i64 n ∧ Below w.heap.size w wr ∧ Hid (∀ j, j < n → samePr (prAt l j) (prAt m j) = true)) (fun i _ => l.length - (intOf i).toNat)
    case atStart => exact ⟨0, Nat.zero_le _, rfl, Below.refl _ _, fun j hj => absurd hj (Nat.not_lt_zero _)⟩
    case round =>
      obtain ⟨n, hn, rfl, hb, HA⟩ := hrel
      by_cases hlt : n < l.length
      · have hltm : n < m.length := by have := HL.out; omega
        obtain ⟨b1, o1, rfl, hl1, c1, c2⟩ := (hp.below hb).at_ hlt
        obtain ⟨b2, o2, rfl, hl2, d1, d2⟩ := (hq.below hb).at_ hltm
        have hne := fun W => neq36 (prAt l n).1 (prAt l n).2 (prAt m n).1 (prAt m n).2 W
        have hgd := fun (x y : Operand) (op : BinOp) (W : World) => run_eqGuard_agg (P := Tryd.prog) W op 50 x y #[.string (prAt l n).1, .string (prAt l n).2] #[.string (prAt m n).1, .string (prAt m n).2] guard36
        clear hp hq
        cases hs : ((prAt l n).1.toList == (prAt m n).1.toList && (prAt l n).2.toList == (prAt m n).2.toList)
        · have HF := hd (same_not l m n hlt hltm hs)
          clear HA
          simp only [hs] at hne
          clear hs
          go_wp2_with fail
          go_quiet (fail)
          go_wp2
          go_ret
          exact ⟨ret_bool HF.out.symm, below_drewN hb _⟩
        · have HB := one_more (p := fun j => samePr (prAt l j) (prAt m j) = true) HA hs
          clear HA
          simp only [hs] at hne
          clear hs
          go_wp2_with fail
          go_quiet (fail)
          go_wp2
          go_roundw
          case rel => exact ⟨n + 1, by omega, by go_num, below_drewN hb _, HB⟩
          case measure => simp [intOf]; omega
      · have HF := hd (same_of l m HL.out (fun j hj => HA.out j (by omega)))
        clear HA hp hq
        go_wp2
        go_ret
        exact ⟨ret_bool HF.out.symm, hb⟩
  · have hx : ((l.length : Int) != (m.length : Int)) = true := by simp; omega
    have HF := hd (show decide (l = m) = false by rw [decide_eq_false_iff_not]; rintro rfl; exact hlm rfl)
    clear hlm
    go_enter Tryd.func79, Tryd.ntmps79
    go_wp2
    go_ret
    exact ⟨ret_bool HF.out.symm, Below.refl _ _⟩

set_option maxRecDepth 4000 in
set_option maxHeartbeats 2000000 in
theorem prsame_any (A B : Option Addr) (l m : List Pr) (c d : Nat) (w : World) (hl : l.length ≤ 9223372036854775807) (hm : m.length ≤ 9223372036854775807) (hp : PL w w.heap.size A l) (hq : PL w w.heap.size B m) :
    Calls Tryd.prog 31 #[.slice A l.length c, .slice B m.length d] w fun e w' => e = .returned (.bool (decide (l = m))) ∧ Below w.heap.size w w' := by
  by_cases hlm : l.length = m.length
  · have hx : ((l.length : Int) != (m.length : Int)) = false := by simp; omega
    have HL := hd hlm
    clear hlm
    go_enter Tryd.func31, Tryd.ntmps31
    go_wp2
    go_loopw [13] (fun i wr => ∃ n : Nat, n ≤ l.length ∧ i = .int .i64 n ∧ Below w.heap.size w wr ∧ Hid (∀ j, j < n → samePr (prAt l j) (prAt m j) = true)) (fun i _ => l.length - (intOf i).toNat)
    case atStart => exact ⟨0, Nat.zero_le _, rfl, Below.refl _ _, fun j hj => absurd hj (Nat.not_lt_zero _)⟩
    case round =>
      obtain ⟨n, hn, rfl, hb, HA⟩ := hrel
      by_cases hlt : n < l.length
      · have hltm : n < m.length := by have := HL.out; omega
        obtain ⟨b1, o1, rfl, hl1, c1, c2⟩ := (hp.below hb).at_ hlt
        obtain ⟨b2, o2, rfl, hl2, d1, d2⟩ := (hq.below hb).at_ hltm
        have hne := fun W => neq36 (prAt l n).1 (prAt l n).2 (prAt m n).1 (prAt m n).2 W
        have hgd := fun (x y : Operand) (op : BinOp) (W : World) => run_eqGuard_agg (P := Tryd.prog) W op 50 x y #[.string (prAt l n).1, .string (prAt l n).2] #[.string (prAt m n).1, .string (prAt m n).2] guard36
        clear hp hq
        cases hs : ((prAt l n).1.toList == (prAt m n).1.toList && (prAt l n).2.toList == (prAt m n).2.toList)
        · have HF := hd (same_not l m n hlt hltm hs)
          clear HA
          simp only [hs] at hne
          clear hs
          go_wp2_with fail
          go_quiet (fail)
          go_wp2
          go_ret
          exact ⟨ret_bool HF.out.symm, below_drewN hb _⟩
        · have HB := one_more (p := fun j => samePr (prAt l j) (prAt m j) = true) HA hs
          clear HA
          simp only [hs] at hne
          clear hs
          go_wp2_with fail
          go_quiet (fail)
          go_wp2
          go_roundw
          case rel => exact ⟨n + 1, by omega, by go_num, below_drewN hb _, HB⟩
          case measure => simp [intOf]; omega
      · have HF := hd (same_of l m HL.out (fun j hj => HA.out j (by omega)))
        clear HA hp hq
        go_wp2
        go_ret
        exact ⟨ret_bool HF.out.symm, hb⟩
  · have hx : ((l.length : Int) != (m.length : Int)) = true := by simp; omega
    have HF := hd (show decide (l = m) = false by rw [decide_eq_false_iff_not]; rintro rfl; exact hlm rfl)
    clear hlm
    go_enter Tryd.func31, Tryd.ntmps31
    go_wp2
    go_ret
    exact ⟨ret_bool HF.out.symm, Below.refl _ _⟩

set_option maxRecDepth 4000 in
set_option maxHeartbeats 1000000 in
theorem psame_any (A B : Option Addr) (l m : List Pr) (c d : Nat) (w : World) (hl : l.length ≤ 9223372036854775807) (hm : m.length ≤ 9223372036854775807) (hp : PL w w.heap.size A l) (hq : PL w w.heap.size B m) :
    Calls Tryd.prog 57 #[.slice A l.length c, .slice B m.length d] w fun e w' => e = .returned (.bool (decide (l = m))) ∧ Below w.heap.size w w' := by
  have hC := hd (pequal_any A B l m c d w hl hm hp hq)
  clear hp hq
  go_enter Tryd.func57, Tryd.ntmps57
  go_wp2_with (go_at_call 79; refine hC.out.mono ?_; rintro e w' ⟨rfl, hb⟩)
  go_ret
  exact ⟨rfl, hb⟩

end Go.Proofs.YtknkclbjocfhiaaDoor
