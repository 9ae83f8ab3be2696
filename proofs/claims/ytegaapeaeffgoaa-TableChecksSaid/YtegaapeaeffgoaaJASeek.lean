/- The document's rule of a type, what a rule does with a type. The program's small calls: a name; a type of a rule, of a pair; the first that has a type; slices.Contains of numbers. Rows of cells loaded whole in a region that draws its order, whose callees leave what was there. The first of rules, of pairs, that has a type; the rule of a type (the schema's own). The program's rule of a type, the schema's own and a copy; what a rule does with a node. The program's RuleOf, ActOf, and keeps. -/
import Derived.Test.YtegaapeaeffgoaaJPSpec
import Derived.Deep.QuietTactic
import Derived.BigQuiet
import Derived.Test.YtegaapeaeffgoaaJAOpen2
namespace Go.Proofs.Ytegaapeaeffgoaa
open Go.RowKit

theorem arows2 (w : World) (t u : TypeId) (r s : Array Value) : ∃ W0, (w.alloc (.cells r t)).alloc (.cells s u) = W0 ∧ Below w.heap.size w W0 ∧ VarR t W0 w.heap.size r ∧ VarR u W0 (w.heap.size + 1) s := by
  have h1 := (VarR.new w t r).alloc (.cells s u)
  have h2 := VarR.new (w.alloc (.cells r t)) u s
  have e1 : (w.alloc (.cells r t)).heap.size = w.heap.size + 1 := by simp
  rw [e1] at h2
  exact ⟨_, rfl, ((Below.refl _ _).alloc (Nat.le_refl _) _).alloc (by rw [e1]; omega) _, h1, h2⟩
set_option maxRecDepth 4000 in
theorem actT_hit {r : RuleT} {k : Nm} {n : Nat} (hn : n < r.kids.length) (h0 : ∀ j, j < n → eqN (kidAt r.kids j).ty k = false) (h : eqN (kidAt r.kids n).ty k = true) : actT r k = (kidAt r.kids n).act := by
  unfold actT
  have e : r.kids.find? (fun p => eqN p.ty k) = some (kidAt r.kids n) := by
    have := find_first (kidAt r.kids) (fun p => eqN p.ty k) r.kids.length n hn h0 h
    have e2 : (List.range r.kids.length).map (kidAt r.kids) = r.kids := List.ext_getElem (by simp) fun i h1 h2 => by simp [kidAt_mem h2]
    rw [e2] at this
    exact this
  rw [e]; rfl
set_option maxRecDepth 4000 in
theorem actT_miss {r : RuleT} {k : Nm} (h0 : ∀ j, j < r.kids.length → eqN (kidAt r.kids j).ty k = false) : actT r k = r.other := actT_none fun p hp e => by
  obtain ⟨i, hi, rfl⟩ := List.mem_iff_getElem.1 hp
  have := h0 i hi
  rw [kidAt_mem hi, eqN_no] at this
  exact this e
/-- What is told: a rule, its Kids in what was there at w0. -/
def NewRu (w0 w : World) (r : RuleT) (e : Ending) (w' : World) : Prop := ∃ c : RuC, e = .returned (.agg c.row) ∧ RuAt w0 c r ∧ Below w.heap.size w w'
set_option maxRecDepth 4000 in
theorem ruleT_hit {s : SchT} {k : Nm} {n : Nat} (hn : n < s.rules.length) (h0 : ∀ j, j < n → eqN (rulAt s.rules j).ty k = false) (h : eqN (rulAt s.rules n).ty k = true) : ruleT s k = rulAt s.rules n := by
  unfold ruleT
  have e : s.rules.find? (fun p => eqN p.ty k) = some (rulAt s.rules n) := by
    have := find_first (rulAt s.rules) (fun p => eqN p.ty k) s.rules.length n hn h0 h
    have e2 : (List.range s.rules.length).map (rulAt s.rules) = s.rules := List.ext_getElem (by simp) fun i h1 h2 => by simp [rulAt_mem h2]
    rw [e2] at this
    exact this
  rw [e]; rfl
set_option maxRecDepth 4000 in
theorem ruleT_miss {s : SchT} {k : Nm} (h0 : ∀ j, j < s.rules.length → eqN (rulAt s.rules j).ty k = false) : ruleT s k = s.els := by
  unfold ruleT
  have e : s.rules.find? (fun p => eqN p.ty k) = none := List.find?_eq_none.2 fun p hp e => by
    obtain ⟨i, hi, rfl⟩ := List.mem_iff_getElem.1 hp
    have := h0 i hi
    rw [rulAt_mem hi] at this
    rw [e] at this
    cases this
  rw [e]; rfl
end Go.Proofs.Ytegaapeaeffgoaa

namespace Go.Proofs.Ytegaapeaeffgoaa
open Go.RowKit

theorem nameT_size (s : Nm) : nameT s = (decide (1 ≤ s.size) && valB s) := by
  unfold nameT
  congr 1
  obtain ⟨⟨l⟩⟩ := s
  unfold emptyN
  rw [ByteArray.toList_mk]
  cases l with
  | nil => rfl
  | cons x l => simp [ByteArray.size]
set_option maxRecDepth 4000 in
theorem isname_no {s : Nm} (h : s.data.toList.all isVal = false) : nameT s = false := by rw [nameT_size, valB, h]; simp
set_option maxRecDepth 4000 in
set_option maxHeartbeats 1000000 in
theorem isname_any {s : Nm} (hs : FitN1 s) {E : Bool} (hE : nameT s = E) (w : World) : Calls Try.prog 57 #[.string s] w fun e w' => e = .returned (.bool E) ∧ w = w' := by
  subst hE
  have hs' : s.size ≤ 9223372036854775807 := hs
  clear hs
  by_cases h1 : (s.size : Int) < 1
  · go_enter Try.func57, Try.ntmps57
    go_wp2
    go_ret
    exact ⟨ret_bool (by rw [nameT_size, dec_no (show ¬ 1 ≤ s.size by omega)]; rfl), rfl⟩
  · by_cases h2 : (32 : Int) < (s.size : Int)
    · go_enter Try.func57, Try.ntmps57
      go_wp2
      go_ret
      exact ⟨ret_bool (by rw [nameT_size, valB, dec_no (show ¬ s.size ≤ 32 by omega)]; simp), rfl⟩
    · go_enter Try.func57, Try.ntmps57
      go_wp2
      go_loop [15] (fun i => ∃ k : Nat, k ≤ s.size ∧ i = .int .i64 k ∧ Hid (∀ j (hj : j < s.size), j < k → isVal s[j] = true)) (fun i => s.size - (intOf i).toNat)
      case atStart => exact ⟨0, Nat.zero_le _, rfl, fun j _ hj => absurd hj (Nat.not_lt_zero _)⟩
      case round =>
        obtain ⟨k, hk, rfl, HA⟩ := hrel
        by_cases hlt : k < s.size
        · by_cases ha : (s[k].toNat : Int) < 97
          · by_cases hx : (s[k].toNat : Int) < 48
            · cases hx3 : ((s[k].toNat : Int) != 45)
              · have HF := more isVal s k hlt HA ((val_cases _).2 (by have h9 : (s[k].toNat : Int) = 45 := (by simpa using hx3); omega))
                clear HA
                go_wp2
                go_round
                case rel => exact ⟨k + 1, by omega, by go_num, HF⟩
                case measure => simp [intOf]; omega
              · have HF := hd (all_fails isVal s k hlt (val_not (by have h9 : ¬ (s[k].toNat : Int) = 45 := (by simpa using hx3); omega)))
                clear HA
                go_wp2
                go_ret
                exact ⟨ret_bool (isname_no HF.out).symm, rfl⟩
            · have hx' : decide ((s[k].toNat : Int) < 48) = false := dec_no hx
              by_cases hx2 : (57 : Int) < (s[k].toNat : Int)
              · have HF := hd (all_fails isVal s k hlt (val_not (by omega)))
                have hx3 : ((s[k].toNat : Int) != 45) = true := by simp; omega
                clear HA
                go_wp2
                go_ret
                exact ⟨ret_bool (isname_no HF.out).symm, rfl⟩
              · have hx2' : decide ((57 : Int) < (s[k].toNat : Int)) = false := dec_no hx2
                have HF := more isVal s k hlt HA ((val_cases _).2 (by omega))
                clear HA
                go_wp2
                go_round
                case rel => exact ⟨k + 1, by omega, by go_num, HF⟩
                case measure => simp [intOf]; omega
          · have ha' : decide ((s[k].toNat : Int) < 97) = false := dec_no ha
            by_cases hb : (122 : Int) < (s[k].toNat : Int)
            · have HF := hd (all_fails isVal s k hlt (val_not (by omega)))
              have hx' : decide ((s[k].toNat : Int) < 48) = false := dec_no (by omega)
              have hx2 : (57 : Int) < (s[k].toNat : Int) := by omega
              have hx3 : ((s[k].toNat : Int) != 45) = true := by simp; omega
              clear HA
              go_wp2
              go_ret
              exact ⟨ret_bool (isname_no HF.out).symm, rfl⟩
            · have hb' : decide ((122 : Int) < (s[k].toNat : Int)) = false := dec_no hb
              have HF := more isVal s k hlt HA ((val_cases _).2 (by omega))
              clear HA
              go_wp2
              go_round
              case rel => exact ⟨k + 1, by omega, by go_num, HF⟩
              case measure => simp [intOf]; omega
        · obtain rfl : k = s.size := by omega
          have HF := hd (all_take isVal s (fun j hj => HA.out j hj hj))
          clear HA
          go_wp2
          go_ret
          exact ⟨ret_bool (by rw [nameT_size, valB, HF.out]; simp; omega), rfl⟩

set_option maxRecDepth 4000 in
theorem ofpair_any (p : PairT) (w : World) : Calls Try.prog 31 #[.agg (PairT.row p)] w (Still (.string p.ty) w) := by
  have hb : Below w.heap.size w (w.alloc (.cells (PairT.row p) 52)) := (Below.refl _ _).alloc (Nat.le_refl _) _
  have hv := VarR.new w 52 (PairT.row p)
  obtain ⟨W0, hW⟩ : ∃ W0, w.alloc (.cells (PairT.row p) 52) = W0 := ⟨_, rfl⟩
  rw [hW] at hb hv
  have HW := hd hW
  have HB := hd hb
  have l0 : W0.cell? ⟨w.heap.size, 0, none⟩ = some (.string p.ty) := hv.cell 0 _ rfl
  clear hW hb hv
  go_enter Try.func31, Try.ntmps31
  go_upto_region 1 with fail
  rw [HW.out]
  go_wp2_with fail
  go_ret
  exact ⟨rfl, HB.out⟩
set_option maxRecDepth 4000 in
theorem ofrule_any (p : RuC) (w : World) : Calls Try.prog 36 #[.agg (RuC.row p)] w (Still (.string p.ty) w) := by
  have hb : Below w.heap.size w (w.alloc (.cells (RuC.row p) 27)) := (Below.refl _ _).alloc (Nat.le_refl _) _
  have hv := VarR.new w 27 (RuC.row p)
  obtain ⟨W0, hW⟩ : ∃ W0, w.alloc (.cells (RuC.row p) 27) = W0 := ⟨_, rfl⟩
  rw [hW] at hb hv
  have HW := hd hW
  have HB := hd hb
  have l0 : W0.cell? ⟨w.heap.size, 0, none⟩ = some (.string p.ty) := hv.cell 0 _ rfl
  clear hW hb hv
  go_enter Try.func36, Try.ntmps36
  go_upto_region 1 with fail
  rw [HW.out]
  go_wp2_with fail
  go_ret
  exact ⟨rfl, HB.out⟩

set_option maxRecDepth 4000 in
/-- Two variables of the call's own. -/
theorem arow2 (w : World) (t u : TypeId) (x y : Value) : ∃ W0, (w.alloc (.cells #[x] t)).alloc (.cells #[y] u) = W0 ∧ Below w.heap.size w W0 ∧ W0.cell? ⟨w.heap.size, 0, none⟩ = some x ∧ W0.cell? ⟨w.heap.size + 1, 0, none⟩ = some y ∧ w.heap.size + 1 < W0.heap.size := by
  obtain ⟨W0, h1, h2, h3, h4⟩ := arows2 w t u #[x] #[y]
  exact ⟨W0, h1, h2, h3.cell 0 _ rfl, h4.cell 0 _ rfl, h4.lt⟩

end Go.Proofs.Ytegaapeaeffgoaa

namespace Go.Proofs.Ytegaapeaeffgoaa
open Go.RowKit

theorem gq_load {P : Program} {dst : Option Nat} {ty : TypeId} {x : Operand} {t : TypeId} {pos : String} {af : Array Edge} {g : Option (Nat × Bool)} {a : Act} {C : World → Prop} {K : Act → Prop} (h : Oper.quiet P { dst := dst, op := .load ty x, type := t, pos := pos, after := af, guard := g } a C K) : Oper.quiet P { dst := dst, op := .load ty x, type := t, pos := pos, after := af, guard := g } a C K := h
set_option maxRecDepth 4000 in
theorem quiet_load {t : TypeId} {n : Nat} (hrow : RowT t n) {o : Oper} {a : Act} {C : World → Prop} {K : Act → Prop} {g off : Nat} {r : Array Value} (h : ∀ w, C w → w.rangeAt g off r.toList) (hn : r.size = n) (x : Operand) (ho : o.op = .load t x) (hx : a.eval x = .pointer (some ⟨g, off, none⟩)) (hk : K (a.put o.dst (.agg r))) : o.quiet Try.prog a C K := by
  obtain ⟨d, h1, h2, h3⟩ := hrow
  refine ⟨.agg r, fun w hw => ?_, hk⟩
  unfold Oper.quietAt execOp
  simp only [ho, hx, Instr.loadAt, Instr.sureAddr, Sem.run_bind, Sem.run_pure, Result.andThen_ok, run_loadVar_mid w g off t r.toList d (h w hw) h1 h2 (by rw [h3, ← hn]; simp)]
  exact ⟨rfl, rfl⟩
set_option maxRecDepth 4000 in
/-- A variable's row, in whatever later world. -/
theorem later_row {w : World} {t : TypeId} {g : Nat} {r : Array Value} (h : VarR t w g r) : ∀ W, (∃ u : Later w.heap.size w, W = u.1) → W.rangeAt g 0 r.toList := fun W ⟨u, hu⟩ j v hj => by
  subst hu
  exact (h.keep u.2).cell (0 + j) v (by rw [Nat.zero_add]; simpa using hj)
set_option maxRecDepth 4000 in
theorem later_range {w : World} {b o : Nat} {cs : List Value} (h : w.rangeAt b o cs) (hb : b < w.heap.size) : ∀ W, (∃ u : Later w.heap.size w, W = u.1) → W.rangeAt b o cs := fun W ⟨u, hu⟩ => by
  subst hu
  exact rangeAt_later h hb u.2

end Go.Proofs.Ytegaapeaeffgoaa

namespace Go.Proofs.Ytegaapeaeffgoaa
open Go.RowKit

def ruAt (cs : List RuC) (k : Nat) : RuC := cs.getD k RuC.zero
set_option maxRecDepth 4000 in
theorem ruAt_at {cs : List RuC} {k : Nat} (h : k < cs.length) : cs[k]? = some (ruAt cs k) := by simp [ruAt, List.getD, h]
set_option maxRecDepth 4000 in
theorem rowA_pairs {w : World} {A : Option Addr} {l : List PairT} {n : Nat} (hn : l.length = n) (h : VL w w.heap.size A (cellsP l)) : RowA w A n 3 (fun k => (kidAt l k).row) :=
  ⟨fun _ => rfl, fun k hk => by
    obtain ⟨b, o, e, hb, hr⟩ := h.row PairT.len (by decide) (k := k) (by omega)
    exact ⟨b, o, e, hb, by show w.rangeAt b (o + k * 3) (kidAt l k).row.toList; rw [kidAt_mem (by omega)]; exact hr⟩⟩
set_option maxRecDepth 4000 in
theorem rowA_rules {w : World} {A : Option Addr} {cs : List RuC} {us : List RuleT} {n : Nat} (hn : us.length = n) (h : LU w A cs us) : RowA w A n 8 (fun k => (ruAt cs k).row) :=
  ⟨fun _ => rfl, fun k hk => by
    obtain ⟨b, o, c, e, hb, hc, _, hr⟩ := h.at_ (k := k) (by omega)
    rw [ruAt_at (by rw [h.hl]; omega)] at hc
    injection hc with hc
    subst hc
    exact ⟨b, o, e, hb, hr⟩⟩
set_option maxRecDepth 4000 in
theorem LU.ru {w : World} {A : Option Addr} {cs : List RuC} {us : List RuleT} (h : LU w A cs us) {k : Nat} (hk : k < us.length) : RuAt w (ruAt cs k) (rulAt us k) :=
  h.ha k _ _ (ruAt_at (by rw [h.hl]; exact hk)) (by rw [rulAt_mem hk]; exact List.getElem?_eq_getElem hk)

set_option maxRecDepth 100000 in
set_option maxHeartbeats 4000000 in
theorem first1_pair {w : World} (p : PairT) {k : Nm} {g1 g2 : Nat} (h1 : w.cell? ⟨g1, 0, none⟩ = some (.func (.func 31) #[] #[])) (h2 : w.cell? ⟨g2, 0, none⟩ = some (.string k)) {E : Bool} (hE : eqN p.ty k = E) :
    Calls Try.prog 54 #[.agg (PairT.row p), .pointer (some ⟨g1, 0, none⟩), .pointer (some ⟨g2, 0, none⟩)] w (Still (.bool E) w) := by
  have hb : Below w.heap.size w (w.alloc (.cells (PairT.row p) 52)) := (Below.refl _ _).alloc (Nat.le_refl _) _
  have hv := VarR.new w 52 (PairT.row p)
  obtain ⟨W0, hW⟩ : ∃ W0, w.alloc (.cells (PairT.row p) 52) = W0 := ⟨_, rfl⟩
  rw [hW] at hb hv
  have HW := hd hW
  have HB := hd hb
  have HE := hd hE
  have l1 := later_cell ((hb.cell (cell_in h1)).trans h1)
  have l2 := later_cell ((hb.cell (cell_in h2)).trans h2)
  have HV := hd (later_row hv)
  clear hW hb hv h1 h2 hE
  go_enter Try.func54, Try.ntmps54
  go_upto_region 1 with fail
  rw [HW.out]
  refine wp_region_later W0.heap.size (by kernel_rfl) (by kernel_rfl) ?_
  repeat (first
    | (go_big_quiet_want; (with_reducible refine gq_load (ty := 52) (x := .tmp 3) ?_); refine quiet_load rowT_pair (r := PairT.row p) HV.out rfl _ rfl rfl ?_; go_big_quiet_on; simp only [Act.put, List.setIfInBounds_toArray, List.set_cons_succ, List.set_cons_zero])
    | go_big_quiet_step (first | (go_at_call 31; exact later_in (Nat.le_refl _) (ofpair_any p _))))
  refine wpQuiet_nil ?_
  intro _ hu
  obtain ⟨⟨w10, hw10⟩, rfl⟩ := hu
  have HB := hd (step_b HB.out hw10)
  clear l1 l2 HV hw10
  go_wp2_with fail
  go_ret
  exact ⟨ret_bool HE.out, HB.out⟩
set_option maxRecDepth 100000 in
set_option maxHeartbeats 4000000 in
theorem first1_rule {w : World} (p : RuC) {k : Nm} {g1 g2 : Nat} (h1 : w.cell? ⟨g1, 0, none⟩ = some (.func (.func 36) #[] #[])) (h2 : w.cell? ⟨g2, 0, none⟩ = some (.string k)) {E : Bool} (hE : eqN p.ty k = E) :
    Calls Try.prog 70 #[.agg (RuC.row p), .pointer (some ⟨g1, 0, none⟩), .pointer (some ⟨g2, 0, none⟩)] w (Still (.bool E) w) := by
  have hb : Below w.heap.size w (w.alloc (.cells (RuC.row p) 27)) := (Below.refl _ _).alloc (Nat.le_refl _) _
  have hv := VarR.new w 27 (RuC.row p)
  obtain ⟨W0, hW⟩ : ∃ W0, w.alloc (.cells (RuC.row p) 27) = W0 := ⟨_, rfl⟩
  rw [hW] at hb hv
  have HW := hd hW
  have HB := hd hb
  have HE := hd hE
  have l1 := later_cell ((hb.cell (cell_in h1)).trans h1)
  have l2 := later_cell ((hb.cell (cell_in h2)).trans h2)
  have HV := hd (later_row hv)
  clear hW hb hv h1 h2 hE
  go_enter Try.func70, Try.ntmps70
  go_upto_region 1 with fail
  rw [HW.out]
  refine wp_region_later W0.heap.size (by kernel_rfl) (by kernel_rfl) ?_
  repeat (first
    | (go_big_quiet_want; (with_reducible refine gq_load (ty := 27) (x := .tmp 3) ?_); refine quiet_load rowT_rule (r := RuC.row p) HV.out rfl _ rfl rfl ?_; go_big_quiet_on; simp only [Act.put, List.setIfInBounds_toArray, List.set_cons_succ, List.set_cons_zero])
    | go_big_quiet_step (first | (go_at_call 36; exact later_in (Nat.le_refl _) (ofrule_any p _))))
  refine wpQuiet_nil ?_
  intro _ hu
  obtain ⟨⟨w10, hw10⟩, rfl⟩ := hu
  have HB := hd (step_b HB.out hw10)
  clear l1 l2 HV hw10
  go_wp2_with fail
  go_ret
  exact ⟨ret_bool HE.out, HB.out⟩

set_option maxRecDepth 100000 in
set_option maxHeartbeats 4000000 in
theorem firstp_any {w : World} {A : Option Addr} {n c : Nat} (q : Nat → PairT) (hn : n ≤ 100000) (hR : RowA w A n 3 (fun k => (q k).row)) {k : Nm} {E : Int} (hE : firstI (fun i => eqN (q i).ty k) n = E) :
    Calls Try.prog 30 #[.slice A n c, .func (.func 31) #[] #[], .string k] w (Still (.int .i64 E) w) := by
  obtain ⟨W0, hW, hb, h1, h2, _⟩ := arow2 w 61 9 (.func (.func 31) #[] #[]) (.string k)
  have HC := hd (idx_pair (c := c) (fid := 54) (bs := #[.pointer (some ⟨w.heap.size, 0, none⟩), .pointer (some ⟨w.heap.size + 1, 0, none⟩)]) hn (hR.later hb) ⟨fun _ _ => by kernel_rfl, fun i hi w' hw' => first1_pair (q i) ((hw'.cell (cell_in h1)).trans h1) ((hw'.cell (cell_in h2)).trans h2) rfl⟩ hE)
  have HW := hd hW
  have HB := hd hb
  clear hW hb h1 h2 hE
  go_enter Try.func30, Try.ntmps30
  go_upto_region 1 with fail
  rw [HW.out]
  go_wp2_with (go_at_call 53; refine HC.out.mono ?_; rintro e w1 ⟨rfl, b9⟩; have HB := hd (step_b HB.out b9); clear b9)
  go_ret
  exact ⟨rfl, HB.out⟩
set_option maxRecDepth 100000 in
set_option maxHeartbeats 4000000 in
theorem firstr_any {w : World} {A : Option Addr} {n c : Nat} (q : Nat → RuC) (hn : n ≤ 100000) (hR : RowA w A n 8 (fun k => (q k).row)) {k : Nm} {E : Int} (hE : firstI (fun i => eqN (q i).ty k) n = E) :
    Calls Try.prog 56 #[.slice A n c, .func (.func 36) #[] #[], .string k] w (Still (.int .i64 E) w) := by
  obtain ⟨W0, hW, hb, h1, h2, _⟩ := arow2 w 67 9 (.func (.func 36) #[] #[]) (.string k)
  have HC := hd (idx_rule (c := c) (fid := 70) (bs := #[.pointer (some ⟨w.heap.size, 0, none⟩), .pointer (some ⟨w.heap.size + 1, 0, none⟩)]) hn (hR.later hb) ⟨fun _ _ => by kernel_rfl, fun i hi w' hw' => first1_rule (q i) ((hw'.cell (cell_in h1)).trans h1) ((hw'.cell (cell_in h2)).trans h2) rfl⟩ hE)
  have HW := hd hW
  have HB := hd hb
  clear hW hb h1 h2 hE
  go_enter Try.func56, Try.ntmps56
  go_upto_region 1 with fail
  rw [HW.out]
  go_wp2_with (go_at_call 59; refine HC.out.mono ?_; rintro e w1 ⟨rfl, b9⟩; have HB := hd (step_b HB.out b9); clear b9)
  go_ret
  exact ⟨rfl, HB.out⟩

end Go.Proofs.Ytegaapeaeffgoaa

namespace Go.Proofs.Ytegaapeaeffgoaa
open Go.RowKit

theorem pairInfo : (Try.prog.info? 52).map (fun i => (i.zero, i.size, i.bytes)) = some (some (.agg noKid.row), 3, 40) := by kernel_rfl
set_option maxRecDepth 4000 in
theorem ruleInfo : (Try.prog.info? 27).map (fun i => (i.zero, i.size, i.bytes)) = some (some (.agg RuC.zero.row), 8, 112) := by kernel_rfl
set_option maxRecDepth 4000 in
theorem strInfo : (Try.prog.info? 9).map (fun i => (i.zero, i.size, i.bytes)) = some (some (.string ByteArray.empty), 1, 16) := by kernel_rfl
set_option maxRecDepth 4000 in
theorem pairG : ElemG 25 52 3 40 := ⟨Try.underlying25, by
  obtain ⟨i0, hi, hz0, hz1, hz2⟩ := info_parts pairInfo
  exact ⟨i0, _, hi, hz0, hz1, hz2, rfl⟩, by decide⟩
set_option maxRecDepth 4000 in
theorem ruleG : ElemG 22 27 8 112 := ⟨Try.underlying22, by
  obtain ⟨i0, hi, hz0, hz1, hz2⟩ := info_parts ruleInfo
  exact ⟨i0, _, hi, hz0, hz1, hz2, rfl⟩, by decide⟩
set_option maxRecDepth 4000 in
theorem cellsP_len (l : List PairT) : (cellsP l).length = l.length * 3 := flatF_len PairT.len l
set_option maxRecDepth 4000 in
theorem cellsU_len (l : List RuC) : (cellsU l).length = l.length * 8 := flatF_len RuC.len l
set_option maxRecDepth 4000 in
theorem flatF_one1 {α : Type} {f : α → Array Value} (h : ∀ x, (f x).all (·.oneCell') = true) (l : List α) : ∀ u ∈ flatF (fun x => (f x).toList) l, u.oneCell' = true := fun u hu => by
  obtain ⟨x, _, hx⟩ := List.mem_flatMap.1 hu
  exact Array.all_eq_true'.1 (h x) u (by simpa using hx)
set_option maxRecDepth 4000 in
theorem cellsP_all (l : List PairT) : ∀ u ∈ cellsP l, u.oneCell' = true := flatF_one1 PairT.one l
set_option maxRecDepth 4000 in
theorem cellsU_all (l : List RuC) : ∀ u ∈ cellsU l, u.oneCell' = true := flatF_one1 RuC.one l
set_option maxRecDepth 4000 in
theorem agrown_below {w W W' : World} {o : Option Nat} (hb : Below w.heap.size w W) (g : W.grownBy W' o) (ho : ∀ j, o = some j → w.heap.size ≤ j) : Below w.heap.size w W' :=
  hb.trans ⟨g.os, g.tape, g.output, g.size, fun k hk => g.block k (Nat.lt_of_lt_of_le hk hb.size) (fun e => absurd (ho k e.symm) (by omega))⟩
set_option maxRecDepth 4000 in
/-- What an own row holds lies at its place. -/
theorem arow_vl {w : World} {b n size c : Nat} {A : Option Addr} {t : TypeId} {xs : List Value} (h : w.ownsRow b t size (.slice A n c) n xs) : n ≤ c ∧ VL w w.heap.size A xs := by
  rcases h.2 with ⟨e, _⟩ | ⟨g, cap, cur, e, hbg, hg, hnc, _, hsz, hcur⟩
  · injection e with e1 e2 e3
    subst e1 e2 e3
    exact ⟨Nat.le_refl _, fun hn => absurd (List.eq_nil_of_length_eq_zero (by have := h.1; omega)) hn⟩
  · injection e with e1 e2 e3
    subst e1 e3
    refine ⟨hnc, fun _ => ⟨g, 0, rfl, (Array.getElem?_eq_some_iff.1 hg).1, fun k u hk => ?_⟩⟩
    rw [← hcur, List.getElem?_take] at hk
    split at hk
    · simp only [World.cell?, hg, Nat.zero_add]
      simpa using hk
    · cases hk
/-- A row that a call makes. -/
def NewX (t : TypeId) (size : Nat) (w : World) (n : Nat) (xs : List Value) (e : Ending) (w' : World) : Prop := ∃ A c, e = .returned (.slice A n c) ∧ w'.ownsRow w.heap.size t size (.slice A n c) n xs ∧ Below w.heap.size w w'
set_option maxRecDepth 4000 in
set_option maxHeartbeats 2000000 in
theorem clonek_any {w : World} {A : Option Addr} {l : List PairT} {n c : Nat} (hn : l.length = n) (hl : n ≤ 10000) (hp : VL w w.heap.size A (cellsP l)) : Calls Try.prog 34 #[.slice A n c] w (NewX 52 3 w n (cellsP l)) := by
  have HV := hd hp
  have HN := hd hn
  clear hp hn
  rcases A with _ | a
  · have hnil := fun W => Go.Lib.run_eql_slice_nil (P := Try.prog) W 25 52 none n c 0 0 Try.underlying25
    have HL := hd (show l = [] by
      rcases Classical.em (l = []) with h | h
      · exact h
      · obtain ⟨_, _, h2, _⟩ := HV.out (by
          intro e
          have h3 := cellsP_len l
          rw [e] at h3
          exact h (List.eq_nil_of_length_eq_zero (by simp at h3; omega)))
        cases h2)
    have hz : n = 0 := by rw [← HN.out, HL.out]; rfl
    subst hz
    go_enter Try.func34, Try.ntmps34
    go_wp2
    go_ret
    exact ⟨none, 0, rfl, by rw [HL.out]; exact World.ownsRow_nil _ _ _ _, Below.refl _ _⟩
  · have hnil := fun W => Go.Lib.run_eql_slice_nil (P := Try.prog) W 25 52 (some a) n c 0 0 Try.underlying25
    go_enter Try.func34, Try.ntmps34
    go_wp2_with (at_builtin; refine wpList_append_GX pairG _ rfl (.tmp 5) (.tmp 6) rfl w.heap.size (.slice (some ⟨w.heap.size, 0, none⟩) 0 0) 0 [] rfl (World.ownsRow_made w #[] 0 (Nat.le_refl _) (by unfold maxLen; omega) (by simp)) (some a) n c w.heap.size (cellsP l) rfl (by rw [cellsP_len, HN.out]) (HV.out.below ((Below.refl _ _).alloc (Nat.le_refl _) _)) (cellsP_all l) (by unfold maxLen; omega) (by omega) (by simp) ?_; intro A1 c1 w1 ho1 hg1 hat1)
    go_ret
    rw [Nat.zero_add, List.nil_append] at ho1
    refine ⟨A1, c1, rfl, ho1, agrown_below ((Below.refl _ _).alloc (Nat.le_refl _) _) hg1 (fun j hj => ?_)⟩
    simp [Value.ownBlock] at hj
    omega
set_option maxRecDepth 4000 in
/-- A part of a variable stored into. -/
theorem wpList_store_part {ty : TypeId} {n : Nat} (hsz : (Try.prog.info? ty).map (·.size) = some n) {ops : Array Oper} {rest : List Oper} {op : Oper} {a : Act} {W : World} {Q : Exit → Act → World → Prop} {t : TypeId} {g : Nat} {r r' : Array Value} (h : VarR t W g r) (x y : Operand) (ho : op.op = .store ty x y) (hgd : op.guard = none) (hd : op.dst = none)
    (j : Nat) (v : Value) (vs : List Value) (hx : a.eval x = .pointer (some ⟨g, j, none⟩)) (hy : a.eval y = v) (hv : v.cells = vs.toArray) (hn : vs.length = n) (h1 : ∀ u ∈ vs, u.oneCell' = true) (hj : j + vs.length ≤ r.size) (hc : putAll r j vs = r')
    (hk : ∀ W', VarR t W' g r' → Off g W W' → wpList Try.prog ops Q rest a W') : wpList Try.prog ops Q (op :: rest) a W := by
  have hcell : ∀ i, i < vs.length → (W.cell? ⟨g, j + i, none⟩).isSome = true ∧ W.frozen? ⟨g, j + i, none⟩ = false := fun i hi => by
    have hs : j + i < r.size := by omega
    refine ⟨by rw [h.cell (j + i) _ (Array.getElem?_eq_getElem hs)]; rfl, ?_⟩
    have h0 : W.heap[g]? = some (.cells r t (0, 0)) := h
    simp [World.frozen?, h0]
  have hrun := run_storeCells_cells (P := Try.prog) g j vs 0 W (fun i hi => by simpa using (hcell i hi).1) (fun i hi => by simpa using (hcell i hi).2) h1
  have hst : (storeVar ty ⟨g, j, none⟩ v).run Try.prog W = .ok () (W.setCells g j vs) := by
    cases hq : Try.prog.info? ty with
    | none => simp [hq] at hsz
    | some i =>
      have hs : i.size = vs.length := by simp [hq] at hsz; omega
      simp only [Nat.add_zero] at hrun
      simp [storeVar, sizeOf, typeInfo, hq, hv, hs, hrun]
  refine wpList_plain hgd fun K hK => ?_
  unfold Oper.wp execOp
  simp only [ho, hx, hy, Instr.storeAt, Instr.sureAddr, Sem.run_bind, Sem.run_pure, Result.andThen_ok, hst]
  obtain ⟨r1, r2⟩ := setCells_row g _ vs j W _ h
  rw [hc] at r1
  exact hK _ _ (by rw [hd]; exact hk _ r1 r2)

set_option maxRecDepth 100000 in
set_option maxHeartbeats 4000000 in
theorem ruleof_any {w0 w : World} {c : ScC} {s : SchT} (h : ScAt w0 c s) (hb0 : Below w0.heap.size w0 w) (hl : s.rules.length ≤ 10000) {k : Nm} {E : RuleT} (hE : ruleT s k = E) : Calls Try.prog 33 #[.agg c.row, .string k] w (NewRu w0 w E) := by
  obtain ⟨R, nr, cr, e, o1, o2, o3, o4, o5, o6, cap⟩ := c
  obtain ⟨W0, hW, hb, v1, v2⟩ := arows2 w 30 27 (ScC.mk R nr cr e o1 o2 o3 o4 o5 o6 cap).row #[.string ⟨#[]⟩, .int .i64 0, .string ⟨#[]⟩, .int .i64 0, .string ⟨#[]⟩, .slice none 0 0, .int .i64 0, .string ⟨#[]⟩]
  obtain ⟨cs, hcs⟩ := h.rules
  have hN : s.rules.length = nr := h.len
  have hlk : nr ≤ 10000 := hN ▸ hl
  obtain ⟨i, hi⟩ : ∃ i, firstI (fun j => eqN (ruAt cs j).ty k) nr = i := ⟨_, rfl⟩
  have HC := hd (firstr_any (c := cr) (ruAt cs) (by omega) (rowA_rules hN (hcs.later (hb0.trans (hb.mono hb0.size)))) hi)
  have HW := hd hW
  have HB := hd hb
  have V1 := hd v1
  have V2 := hd v2
  have l3 : W0.cell? ⟨w.heap.size, 0, none⟩ = some (.slice R nr cr) := v1.cell 0 _ rfl
  have hty : ∀ j, j < nr → (rulAt s.rules j).ty = (ruAt cs j).ty := fun j hj => (hcs.ru (by omega)).hty
  rcases firstI_cases (fun j => eqN (ruAt cs j).ty k) nr with ⟨n, hn, e1, e2, e3⟩ | ⟨e1, e3⟩
  · obtain rfl : i = (n : Int) := hi.symm.trans e1
    have hX : rulAt s.rules n = E := (ruleT_hit (k := k) (by omega) (fun j hj => by rw [hty j (by omega)]; exact e3 j hj) (by rw [hty n hn]; exact e2)).symm.trans hE
    have hP := hcs.ru (k := n) (by omega)
    rw [hX] at hP
    obtain ⟨b, o, hR, hbl, hr⟩ := (rowA_rules hN hcs).2 n hn
    obtain rfl : R = some ⟨b, o, none⟩ := hR
    have HRG := hd (show W0.rangeAt b (o + n * 8) (ruAt cs n).row.toList from rangeAt_later hr hbl (hb0.trans (hb.mono hb0.size)))
    have HBL := hd (show b < W0.heap.size from Nat.lt_of_lt_of_le hbl (hb0.trans (hb.mono hb0.size)).size)
    have HP := hd hP
    obtain ⟨p, hp⟩ : ∃ p, ruAt cs n = p := ⟨_, rfl⟩
    rw [hp] at HRG HP
    clear h hb0 hcs hN hl hE hi hW hb v1 v2 hty e1 e2 e3 hX hP hr hbl hp
    go_enter Try.func33, Try.ntmps33
    go_upto_region 1 with fail
    rw [HW.out]
    go_wp2_with (first
      | (go_at_call 56; refine HC.out.mono ?_; rintro e9 w1 ⟨rfl, b9⟩; clear l3; have V1 := hd (V1.out.keep b9); have V2 := hd (V2.out.keep b9); have l3 : w1.cell? ⟨w.heap.size, 0, none⟩ = some (.slice (some ⟨b, o, none⟩) nr cr) := V1.out.cell 0 _ rfl; have HRG := hd (rangeAt_later HRG.out HBL.out b9); have HB := hd (step_b HB.out b9); clear b9)
      | ((with_reducible refine gd_load (ty := 27) (x := .tmp 15) ?_); refine wpList_load_at rowT_rule (r := p.row) HRG.out rfl _ rfl rfl rfl ?_)
      | ((with_reducible refine gd_store (ty := 27) (x := .tmp 4) ?_); refine wpList_store_row2 rowT_rule (r := p.row) V2.out rfl rfl p.one _ _ rfl rfl rfl rfl rfl ?_; intro W9 hv9 ho9; have HB := hd (off_below HB.out ho9 (Nat.le_succ _)); have V4 := hd hv9; clear hv9 ho9))
    refine bodyPost_ret (result_row rowT_rule Try.results33 _ _ V4.out rfl rfl) rfl ⟨p, rfl, HP.out, HB.out⟩
  · obtain rfl : i = -1 := hi.symm.trans e1
    have hX : s.els = E := (ruleT_miss (k := k) (fun j hj => by rw [hty j (by omega)]; exact e3 j (by omega))).symm.trans hE
    have HP := hd (show RuAt w0 e E by rw [← hX]; exact h.els)
    clear h hb0 hcs hN hl hE hi hW hb v1 v2 hty e1 e3 hX
    go_enter Try.func33, Try.ntmps33
    go_upto_region 1 with fail
    rw [HW.out]
    go_wp2_with (first
      | (go_at_call 56; refine HC.out.mono ?_; rintro e9 w1 ⟨rfl, b9⟩; clear l3; have V1 := hd (V1.out.keep b9); have V2 := hd (V2.out.keep b9); have HB := hd (step_b HB.out b9); clear b9)
      | ((with_reducible refine gd_load (ty := 27) (x := .tmp 17) ?_); refine wpList_load_at rowT_rule (r := e.row) (V1.out.range 1 _ (ScC.els_at ⟨R, nr, cr, e, o1, o2, o3, o4, o5, o6, cap⟩)) rfl _ rfl rfl rfl ?_)
      | ((with_reducible refine gd_store (ty := 27) (x := .tmp 4) ?_); refine wpList_store_row2 rowT_rule (r := e.row) V2.out rfl rfl e.one _ _ rfl rfl rfl rfl rfl ?_; intro W9 hv9 ho9; have HB := hd (off_below HB.out ho9 (Nat.le_succ _)); have V4 := hd hv9; clear hv9 ho9))
    refine bodyPost_ret (result_row rowT_rule Try.results33 _ _ V4.out rfl rfl) rfl ⟨e, rfl, HP.out, HB.out⟩

end Go.Proofs.Ytegaapeaeffgoaa

namespace Go.Proofs.Ytegaapeaeffgoaa
open Go.RowKit

/-- A rule told, its Kids the call's own. -/
def NewRC (w : World) (r : RuleT) (e : Ending) (w' : World) : Prop := ∃ c : RuC, e = .returned (.agg c.row) ∧ RuAt w' c r ∧ (∀ b o, c.K = some ⟨b, o, none⟩ → w.heap.size ≤ b) ∧ Below w.heap.size w w'
set_option maxRecDepth 4000 in
/-- A row of one's own, behind a store into an older block. -/
theorem row_off {w w' : World} {base n size g : Nat} {v : Value} {t : TypeId} {xs : List Value} (h : w.ownsRow base t size v n xs) (ho : Off g w w') (hg : g < base) : w'.ownsRow base t size v n xs := by
  refine ⟨h.1, ?_⟩
  rcases h.2 with e | ⟨q, cap, cur, e, hbg, hq, rest⟩
  · exact .inl e
  · exact .inr ⟨q, cap, cur, e, hbg, (ho.block q (Array.getElem?_eq_some_iff.1 hq).1 (by omega)).trans hq, rest⟩
set_option maxRecDepth 4000 in
theorem arow_off0 {w : World} {b n size c : Nat} {A : Option Addr} {t : TypeId} {xs : List Value} (h : w.ownsRow b t size (.slice A n c) n xs) {q o : Nat} (e : A = some ⟨q, o, none⟩) : o = 0 := by
  rcases h.2 with ⟨e1, _⟩ | ⟨g, cap, cur, e1, _⟩
  · injection e1 with e1
    rw [e] at e1; cases e1
  · injection e1 with e1
    rw [e] at e1
    injection e1 with e1
    injection e1 with _ e1
set_option maxRecDepth 4000 in
theorem own_some {q o n c : Nat} (h : o = 0) : (Value.slice (some ⟨q, o, none⟩) n c).ownBlock = some q := by subst h; rfl
set_option maxRecDepth 4000 in
theorem sz_pairs : (Try.prog.info? 25).map (·.size) = some 1 := by kernel_rfl
set_option maxRecDepth 100000 in
set_option maxHeartbeats 4000000 in
theorem rule_any {w : World} {c : ScC} {s : SchT} (h : ScAt w c s) (hl : s.rules.length ≤ 10000) {k : Nm} {E : RuleT} (hE : ruleT s k = E) (hk : E.kids.length ≤ 10000) : Calls Try.prog 17 #[.agg c.row, .string k] w (NewRC w E) := by
  obtain ⟨W0, hW, hb, v1, v2⟩ := arows2 w 30 27 c.row #[.string ⟨#[]⟩, .int .i64 0, .string ⟨#[]⟩, .int .i64 0, .string ⟨#[]⟩, .slice none 0 0, .int .i64 0, .string ⟨#[]⟩]
  have HC := hd (ruleof_any (k := k) (h.later hb) (Below.refl _ _) hl hE)
  have HK := hd hk
  have HW := hd hW
  have HB := hd hb
  have V1 := hd v1
  have V2 := hd v2
  clear h hl hE hk hW hb v1 v2
  go_enter Try.func17, Try.ntmps17
  go_upto_region 1 with fail
  rw [HW.out]
  go_upto_region 2 with (first
    | ((with_reducible refine gd_load (ty := 30) (x := .tmp 2) ?_); refine wpList_load_row rowT_sch V1.out rfl _ rfl rfl rfl ?_)
    | (go_at_call 33; refine HC.out.mono ?_; rintro e w1 ⟨d, rfl, hr, b9⟩; obtain ⟨ty, td, tt, od, ot, K, nk, ck, fill, fty⟩ := d; have hr1 := hr.later b9; have V2 := hd (V2.out.keep b9); have hl2 := V2.out.lt; have HB := hd (step_b HB.out b9); have V5 := hd (VarR.new w1 27 (RuC.mk ty td tt od ot K nk ck fill fty).row); have HR := hd (hr1.later ((Below.refl _ _).alloc (Nat.le_refl _) (.cells (RuC.mk ty td tt od ot K nk ck fill fty).row 27))); have V2 := hd (V2.out.alloc (.cells (RuC.mk ty td tt od ot K nk ck fill fty).row 27)); have HB := hd (HB.out.alloc HB.out.size (.cells (RuC.mk ty td tt od ot K nk ck fill fty).row 27)); have hg5 := HB.out.size; clear hr hr1 b9)
    | ((with_reducible refine gd_store (ty := 27) (x := .tmp 5) ?_); refine wpList_store_new rowT_rule (r := (RuC.mk ty td tt od ot K nk ck fill fty).row) rfl rfl (RuC.one _) _ _ rfl rfl rfl rfl rfl rfl ?_))
  obtain ⟨W1, hW1⟩ : ∃ W1, w1.alloc (.cells (RuC.mk ty td tt od ot K nk ck fill fty).row 27) = W1 := ⟨_, rfl⟩
  obtain ⟨g, hg⟩ : ∃ g, w1.heap.size = g := ⟨_, rfl⟩
  rw [hW1] at V5 HR V2 HB
  rw [hW1]
  rw [hg] at V5 ⊢
  have HKV := hd (show VL W1 W1.heap.size K (cellsP E.kids) from HR.out.kids)
  have HN := hd (show E.kids.length = nk from HR.out.len)
  have HCL := hd (clonek_any (c := ck) HN.out (HN.out ▸ HK.out) HKV.out)
  have HG := hd (show w.heap.size ≤ g by rw [hg] at hl2; omega)
  have HNE := hd (show g ≠ w.heap.size + 1 by rw [hg] at hl2; omega)
  have z5 : W1.cell? ⟨g, 5, none⟩ = some (.slice K nk ck) := V5.out.cell 5 _ rfl
  have V5g := hd (V5.out.lt)
  have HNW := hd (show w.heap.size + 1 < W1.heap.size from V2.out.lt)
  clear hl2 hg5 hW1 hg
  go_upto_region 3 with (first
    | (go_at_call 34; refine HCL.out.mono ?_; rintro e9 w2 ⟨A2, c2, rfl, ho2, b9⟩; have HO := hd ho2; have HKE := hd (HR.out.later b9); have V2 := hd (V2.out.keep b9); have V5 := hd (V5.out.keep b9); have HB := hd (step_b HB.out b9); clear ho2 b9 z5)
    | ((with_reducible refine gd_store (ty := 25) (x := .tmp 12) ?_); refine wpList_store_part sz_pairs V5.out _ _ rfl rfl rfl 5 (.slice A2 nk c2) [.slice A2 nk c2] rfl rfl rfl rfl (by simp [Value.oneCell']) (by show (6 : Nat) ≤ 8; decide) (r' := (RuC.mk ty td tt od ot A2 nk c2 fill fty).row) rfl ?_; intro W3 hv3 ho3; have V5 := hd hv3; have V2 := hd (V2.out.off ho3 (Ne.symm HNE.out)); have HB := hd (off_below HB.out ho3 HG.out); have HOF := hd ho3; clear hv3 ho3))
  have HA2 := hd (row_off HO.out HOF.out V5g.out)
  go_wp2_with (first
    | ((with_reducible refine gd_load (ty := 27) (x := .tmp 5) ?_); refine wpList_load_row rowT_rule V5.out rfl _ rfl rfl rfl ?_)
    | ((with_reducible refine gd_store (ty := 27) (x := .tmp 4) ?_); refine wpList_store_row2 rowT_rule (r := (RuC.mk ty td tt od ot A2 nk c2 fill fty).row) V2.out rfl rfl (RuC.one _) _ _ rfl rfl rfl rfl rfl ?_; intro W9 hv9 ho9; have HB := hd (off_below HB.out ho9 (Nat.le_succ _)); have HOF2 := hd ho9; have V4 := hd hv9; clear hv9 ho9))
  have HA3 := hd (row_off HA2.out HOF2.out HNW.out)
  refine bodyPost_ret (result_row rowT_rule Try.results17 _ _ V4.out rfl rfl) rfl ⟨_, rfl, ?_, fun b o e => ?_, HB.out⟩
  · obtain ⟨hc, hv⟩ := arow_vl HA3.out
    exact { HKE.out with len := HN.out, cap := hc, kids := hv }
  · have h1 := (HA3.out.lt b (by rw [show A2 = some ⟨b, o, none⟩ from e]; exact own_some (arow_off0 HA3.out e))).1
    have h2 := HNW.out
    omega

/-- What a rule does with a leaf, or with an element of a type. -/
def actQ (r : RuleT) : Option Nm → ActT
  | none => r.text
  | some k => actT r k
/-- d holds a leaf, or an element of a type. -/
structure QAt (w : World) (d : NC) (q : Option Nm) : Prop where
  lf : d.lf = q.isNone
  ps : ∃ ps : List Pr, ps.length = d.np ∧ d.np ≤ 9223372036854775807 ∧ PL w w.heap.size d.P ps ∧ ∀ k, q = some k → typeT false ps = k
set_option maxRecDepth 4000 in
theorem QAt.later {w w' : World} {d : NC} {q : Option Nm} (h : QAt w d q) (hb : Below w.heap.size w w') : QAt w' d q :=
  ⟨h.lf, by
    obtain ⟨ps, h1, h2, h3, h4⟩ := h.ps
    exact ⟨ps, h1, h2, (h3.below hb).more hb.size, h4⟩⟩
set_option maxRecDepth 4000 in
theorem typeq_any {w : World} {d : NC} {k : Nm} (h : QAt w d (some k)) : Calls Try.prog 32 #[.agg d.row] w (Still (.string k) w) := by
  obtain ⟨lf, P, np, pc, X, nt, tc, K, nk, kc⟩ := d
  obtain ⟨ps, h1, h2, h3, h4⟩ := h.ps
  have hl : lf = false := h.lf
  subst hl
  have h1' : ps.length = np := h1
  subst h1'
  have := type_any false P ps pc (.slice X nt tc) (.slice K nk kc) w h2 h3
  rw [h4 k rfl] at this
  exact this
set_option maxRecDepth 4000 in
theorem arows3 (w : World) (t u v : TypeId) (r s q : Array Value) : ∃ W0, ((w.alloc (.cells r t)).alloc (.cells s u)).alloc (.cells q v) = W0 ∧ Below w.heap.size w W0 ∧ VarR t W0 w.heap.size r ∧ VarR u W0 (w.heap.size + 1) s ∧ VarR v W0 (w.heap.size + 1 + 1) q := by
  obtain ⟨W1, h1, h2, h3, h4⟩ := arows2 w t u r s
  have e1 : W1.heap.size = w.heap.size + 1 + 1 := by rw [← h1]; simp
  have h5 := VarR.new W1 v q
  rw [e1] at h5
  exact ⟨_, by rw [h1], h2.alloc h2.size _, h3.alloc _, h4.alloc _, h5⟩
set_option maxRecDepth 4000 in
theorem range_tail {w : World} {b o : Nat} {x : Value} {cs : List Value} (h : w.rangeAt b o (x :: cs)) : w.rangeAt b (o + 1) cs := fun j v hj => by
  have := h (j + 1) v (by simpa using hj)
  rw [show o + 1 + j = o + (j + 1) by omega]
  exact this
set_option maxRecDepth 100000 in
set_option maxHeartbeats 4000000 in
theorem act_any {w : World} {c : RuC} {r : RuleT} {d : NC} {q : Option Nm} (h : RuAt w c r) (hl : r.kids.length ≤ 10000) (hq : QAt w d q) {E : ActT} (hE : actQ r q = E) : Calls Try.prog 15 #[.agg c.row, .agg d.row] w (Still (.agg #[.int .i64 E.act, .string E.ty]) w) := by
  obtain ⟨ty, td, tt, od, ot, K, nk, ck, fill, fty⟩ := c
  obtain ⟨W0, hW, hb, v1, v2, v3⟩ := arows3 w 27 41 24 (RuC.mk ty td tt od ot K nk ck fill fty).row d.row #[.int .i64 0, .string ⟨#[]⟩]
  have HW := hd hW
  have HB := hd hb
  have V1 := hd v1
  have V2 := hd v2
  have V3 := hd v3
  have hN : r.kids.length = nk := h.len
  cases q with
  | none =>
    have hlf : d.lf = true := hq.lf
    have hX : r.text = E := hE
    have HX := hd (show E = ⟨td, tt⟩ by rw [← hX]; exact h.htext)
    have l0 : W0.cell? ⟨w.heap.size + 1, 0, none⟩ = some (.bool true) := v2.cell 0 _ (by rw [← hlf]; rfl)
    clear h hl hq hE hW hb v1 v2 v3 hN hlf hX
    go_enter Try.func15, Try.ntmps15
    go_upto_region 1 with fail
    rw [HW.out]
    go_wp2_with (first
      | ((with_reducible refine gd_load (ty := 24) (x := .tmp 8) ?_); refine wpList_load_at rowT_act (r := #[.int .i64 td, .string tt]) (V1.out.two 1 rfl rfl) rfl _ rfl rfl rfl ?_)
      | ((with_reducible refine gd_store (ty := 24) (x := .tmp 4) ?_); refine wpList_store_row2 rowT_act (r := #[.int .i64 td, .string tt]) V3.out rfl rfl (act_one _ _) _ _ rfl rfl rfl rfl rfl ?_; intro W9 hv9 ho9; have HB := hd (off_below HB.out ho9 (by omega)); have V4 := hd hv9; clear hv9 ho9))
    refine bodyPost_ret (result_row rowT_act Try.results15 _ _ V4.out rfl rfl) rfl ⟨by rw [HX.out], HB.out⟩
  | some k =>
    have hlf : d.lf = false := hq.lf
    have l0 : W0.cell? ⟨w.heap.size + 1, 0, none⟩ = some (.bool false) := v2.cell 0 _ (by rw [← hlf]; rfl)
    have l5 : W0.cell? ⟨w.heap.size, 5, none⟩ = some (.slice K nk ck) := v1.cell 5 _ rfl
    have u5 := later_cell l5
    have HV := hd (later_row v2)
    have HT := fun u : Later W0.heap.size W0 => hd (typeq_any ((hq.later hb).later u.2))
    obtain ⟨i, hi⟩ : ∃ i, firstI (fun j => eqN (kidAt r.kids j).ty k) nk = i := ⟨_, rfl⟩
    have HC := fun u : Later W0.heap.size W0 => hd (firstp_any (w := u.1) (c := ck) (kidAt r.kids) (hN ▸ by omega) (rowA_pairs hN (((show VL w w.heap.size K (cellsP r.kids) from h.kids).later hb).later u.2)) hi)
    have hE' : actT r k = E := hE
    have hO : r.other = ⟨od, ot⟩ := h.hother
    have hKV : VL w w.heap.size K (cellsP r.kids) := h.kids
    have hRA := rowA_pairs hN hKV
    clear hq hlf hE h v2 hW
    go_enter Try.func15, Try.ntmps15
    go_upto_region 1 with fail
    rw [HW.out]
    go_upto_region 3 with fail
    refine wp_region_later W0.heap.size (by kernel_rfl) (by kernel_rfl) ?_
    repeat (first
      | (go_big_quiet_want; (with_reducible refine gq_load (ty := 41) (x := .tmp 3) ?_); refine quiet_load rowT_node (r := d.row) HV.out rfl _ rfl rfl ?_; go_big_quiet_on; simp only [Act.put, List.setIfInBounds_toArray, List.set_cons_succ, List.set_cons_zero])
      | go_big_quiet_step (first
          | (go_at_call 32; exact later_in (Nat.le_refl _) (HT _).out)
          | (go_at_call 30; exact later_in (Nat.le_refl _) (HC _).out)))
    refine wpQuiet_nil ?_
    intro w9 hu
    obtain ⟨⟨w10, hw10⟩, hw9⟩ := hu
    have e9 : w10 = w9 := hw9.symm
    subst e9
    clear hw9
    have HB := hd (step_b HB.out hw10)
    have V1 := hd (V1.out.keep hw10)
    have V3 := hd (V3.out.keep hw10)
    clear l0 l5 u5 HV HT HC
    rcases firstI_cases (fun j => eqN (kidAt r.kids j).ty k) nk with ⟨n, hn, e1, e2, e3⟩ | ⟨e1, e3⟩
    · obtain rfl : i = (n : Int) := hi.symm.trans e1
      have hX : (kidAt r.kids n).act = E := (actT_hit (by omega) e3 e2).symm.trans hE'
      obtain ⟨b, o, hR, hbl, hr⟩ := hRA.2 n hn
      obtain rfl : K = some ⟨b, o, none⟩ := hR
      obtain ⟨p, hp⟩ : ∃ p, kidAt r.kids n = p := ⟨_, rfl⟩
      rw [hp] at hX
      simp only [hp] at hr
      obtain ⟨pty, ⟨pa, pat⟩⟩ := p
      have HX := hd (show E = ⟨pa, pat⟩ from hX.symm)
      have HRG := hd (range_tail (rangeAt_later hr hbl (hb.trans (hw10.mono hb.size))))
      have l5 : w10.cell? ⟨w.heap.size, 5, none⟩ = some (.slice (some ⟨b, o, none⟩) nk ck) := V1.out.cell 5 _ rfl
      clear hl hi hb v1 v3 hN hE' hO hKV hRA e1 e2 e3 hX hr hbl hp hw10
      go_wp2_with (first
        | ((with_reducible refine gd_load (ty := 24) (x := .tmp 21) ?_); refine wpList_load_at rowT_act (r := #[.int .i64 pa, .string pat]) HRG.out rfl _ rfl rfl rfl ?_)
        | ((with_reducible refine gd_store (ty := 24) (x := .tmp 4) ?_); refine wpList_store_row2 rowT_act (r := #[.int .i64 pa, .string pat]) V3.out rfl rfl (act_one _ _) _ _ rfl rfl rfl rfl rfl ?_; intro W9 hv9 ho9; have HB := hd (off_below HB.out ho9 (by omega)); have V4 := hd hv9; clear hv9 ho9))
      refine bodyPost_ret (result_row rowT_act Try.results15 _ _ V4.out rfl rfl) rfl ⟨by rw [HX.out], HB.out⟩
    · obtain rfl : i = -1 := hi.symm.trans e1
      have HX := hd (show E = ⟨od, ot⟩ by rw [← hE', actT_miss (r := r) (k := k) (fun j hj => e3 j (by omega)), hO])
      clear hl hi hb v1 v3 hN hE' hO hKV hRA e1 e3 hw10
      go_wp2_with (first
        | ((with_reducible refine gd_load (ty := 24) (x := .tmp 23) ?_); refine wpList_load_at rowT_act (r := #[.int .i64 od, .string ot]) (V1.out.two 3 rfl rfl) rfl _ rfl rfl rfl ?_)
        | ((with_reducible refine gd_store (ty := 24) (x := .tmp 4) ?_); refine wpList_store_row2 rowT_act (r := #[.int .i64 od, .string ot]) V3.out rfl rfl (act_one _ _) _ _ rfl rfl rfl rfl rfl ?_; intro W9 hv9 ho9; have HB := hd (off_below HB.out ho9 (by omega)); have V4 := hd hv9; clear hv9 ho9))
      refine bodyPost_ret (result_row rowT_act Try.results15 _ _ V4.out rfl rfl) rfl ⟨by rw [HX.out], HB.out⟩
def keepsQ (r : RuleT) (q : Option Nm) : Bool := (actQ r q).act == 1
set_option maxRecDepth 100000 in
set_option maxHeartbeats 4000000 in
theorem keeps_any {w : World} {c : RuC} {r : RuleT} {d : NC} {q : Option Nm} (h : RuAt w c r) (hl : r.kids.length ≤ 10000) (hq : QAt w d q) {E : Bool} (hE : keepsQ r q = E) : Calls Try.prog 67 #[.agg c.row, .agg d.row] w (Still (.bool E) w) := by
  obtain ⟨W0, hW, hb, v1, v2⟩ := arows2 w 27 41 c.row d.row
  have HC := hd (act_any (h.later hb) hl (hq.later hb) rfl)
  have hf := run_act_0 (actQ r q).act (actQ r q).ty
  have HE := hd hE
  have HW := hd hW
  have HB := hd hb
  have V1 := hd v1
  have V2 := hd v2
  clear h hl hq hE hW hb v1 v2
  go_enter Try.func67, Try.ntmps67
  go_upto_region 1 with fail
  rw [HW.out]
  go_wp2_with (first
    | ((with_reducible refine gd_load (ty := 27) (x := .tmp 2) ?_); refine wpList_load_row rowT_rule V1.out rfl _ rfl rfl rfl ?_)
    | ((with_reducible refine gd_load (ty := 41) (x := .tmp 3) ?_); refine wpList_load_row rowT_node V2.out rfl _ rfl rfl rfl ?_)
    | (go_at_call 15; refine HC.out.mono ?_; rintro e9 w1 ⟨rfl, b9⟩; have HB := hd (step_b HB.out b9); clear b9))
  go_ret
  exact ⟨ret_bool HE.out, HB.out⟩

end Go.Proofs.Ytegaapeaeffgoaa
