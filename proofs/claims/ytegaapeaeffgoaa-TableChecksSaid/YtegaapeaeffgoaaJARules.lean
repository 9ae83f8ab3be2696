/- All rules in a row: the program's (slices.Concat), the document's and the law's (append). Rules one behind the other: slices.Grow, slices.Concat; the program's own row of all rules. A set of names kept in a map: what it holds, one name more, one less. The library's sort of strings stands in this program as the shelf's contract asks: which of its functions and types are which. -/
import Derived.Test.YtegaapeaeffgoaaJAForm2
import Derived.Great.BuildSlice
import Derived.Great.FillDense
import Derived.Lib.AppendZeros
import Derived.Maps.OwnSet
import Derived.Maps.OwnOps
import Derived.Maps.StringElems
import Derived.Maps.RangeWalk
import Derived.Shelf.Lays
import Derived.Test.YtegaapeaeffgoaaProg
namespace Go.Proofs.Ytegaapeaeffgoaa
open Go.RowKit

/-- A row of rules told. -/
def NewU (w : World) (us : List RuleT) (e : Ending) (w' : World) : Prop := ∃ A n c cs, e = .returned (.slice A n c) ∧ us.length = n ∧ LU w' A cs us ∧ Below w.heap.size w w'
set_option maxRecDepth 4000 in
theorem cellsU_one (c : RuC) : cellsU [c] = c.row.toList := by simp [cellsU, flatF]
set_option maxRecDepth 4000 in
theorem cellsU_app (a b : List RuC) : cellsU (a ++ b) = cellsU a ++ cellsU b := by simp [cellsU, flatF]
set_option maxRecDepth 4000 in
theorem LU.more {w : World} {A B : Option Addr} {cs : List RuC} {us : List RuleT} {c : RuC} {r : RuleT} (h : LU w A cs us) (hr : RuAt w c r) (hv : VL w w.heap.size B (cellsU (cs ++ [c]))) : LU w B (cs ++ [c]) (us ++ [r]) :=
  ⟨hv, by simp [h.hl], fun k x a h1 h2 => by
    rcases Nat.lt_or_ge k us.length with hk | hk
    · rw [List.getElem?_append_left (by rw [h.hl]; exact hk)] at h1
      rw [List.getElem?_append_left hk] at h2
      exact h.ha k x a h1 h2
    · rw [List.getElem?_append_right (by rw [h.hl]; exact hk)] at h1
      rw [List.getElem?_append_right hk] at h2
      rw [h.hl] at h1
      cases hj : k - us.length with
      | zero =>
        rw [hj] at h1 h2
        simp at h1 h2
        subst h1 h2
        exact hr
      | succ j => rw [hj] at h1; simp at h1⟩
set_option maxRecDepth 4000 in
theorem one_rule (W : World) (c : RuC) : VL (W.alloc (.cells c.row 27)) (W.alloc (.cells c.row 27)).heap.size (some ⟨W.heap.size, 0, none⟩) (cellsU [c]) := fun _ =>
  ⟨W.heap.size, 0, rfl, by simp, fun k u hk => by
    rw [cellsU_one] at hk
    rw [Nat.zero_add, World.cell?_alloc_at _ _ _ _ rfl]
    simpa using hk⟩
set_option maxRecDepth 4000 in
/-- A slice literal of one rule. -/
theorem fill_rule (c : RuC) (i0 : TypeInfo) (hz1 : i0.size = 8) : Instr.fill (fun i => some (i * i0.size, i0.size)) ((Array.range (1 * i0.size)).map ((Value.agg RuC.zero.row).cells[· % (Value.agg RuC.zero.row).cells.size]!)) #[(0, Value.agg c.row)].toList = some c.row := by
  rw [hz1]
  have h := Great.fill_whole (s := 8) (by omega) [Value.agg c.row] ((Array.range (1 * 8)).map ((Value.agg RuC.zero.row).cells[· % (Value.agg RuC.zero.row).cells.size]!)) (by intro v hv; simp at hv; subst hv; rfl) (by simp)
  exact h.trans (by simp [Value.cells])
set_option maxRecDepth 4000 in
theorem run_build_rule (W : World) (c : RuC) : (Instr.buildSlice 22 1 #[(0, .agg c.row)]).run Try.prog W = .ok (.slice (some ⟨W.heap.size, 0, none⟩) 1 1) (W.alloc (.cells c.row 27)) := by
  obtain ⟨i0, hi, hz0, hz1, hz2⟩ := info_parts ruleInfo
  exact run_buildSlice (P := Try.prog) W 22 27 1 #[(0, .agg c.row)] c.row i0 _ Try.underlying22 hi hz0 (by rw [hz1]; decide) (by rw [hz1]; decide) (fill_rule c i0 hz1)
set_option maxRecDepth 4000 in
theorem wpList_build_rule {ops : Array Oper} {rest : List Oper} {o : Oper} {a : Act} {Q : Exit → Act → World → Prop} {W : World} {c : RuC} (x : Operand) (ho : o.op = .buildSlice 22 1 #[(0, x)]) (hgd : o.guard = none) (hx : a.eval x = .agg c.row)
    (hk : wpList Try.prog ops Q rest (a.put o.dst (.slice (some ⟨W.heap.size, 0, none⟩) 1 1)) (W.alloc (.cells c.row 27))) : wpList Try.prog ops Q (o :: rest) a W := by
  refine wpList_plain hgd fun K hK => ?_
  unfold Oper.wp execOp
  simp only [ho, List.map_toArray, List.map_cons, List.map_nil, hx, Sem.run_bind, run_build_rule, Result.andThen_ok]
  exact hK _ _ hk
set_option maxRecDepth 4000 in
theorem step_build_rule {ops : Array Oper} {o : Oper} {a : Act} {K : Act → World → Prop} {Q : Exit → Act → World → Prop} {F : Prop} {W : World} {c : RuC} (x : Operand) (hgd : o.guard = none) (ho : o.op = .buildSlice 22 1 #[(0, x)]) (hx : a.eval x = .agg c.row)
    (hk : K (a.put o.dst (.slice (some ⟨W.heap.size, 0, none⟩) 1 1)) (W.alloc (.cells c.row 27))) : if Region.wanted o (yielded ops a.tmps) = true then Oper.wp Try.prog o a W K Q else F := by
  have hw : Region.wanted o (yielded ops a.tmps) = true := by simp [Region.wanted, hgd]
  rw [if_pos hw]
  unfold Oper.wp execOp
  simp only [ho, List.map_toArray, List.map_cons, List.map_nil, hx, Sem.run_bind, run_build_rule, Result.andThen_ok]
  exact hk
set_option maxRecDepth 4000 in
theorem exec_load_at {t : TypeId} {n : Nat} (hrow : RowT t n) {a : Act} {o : Oper} {W : World} {g off : Nat} {r : Array Value} (h : W.rangeAt g off r.toList) (hn : r.size = n) (x : Operand) (ho : o.op = .load t x) (hx : a.eval x = .pointer (some ⟨g, off, none⟩)) : (execOp a.eval o).run Try.prog W = .ok (.value (.agg r)) W := by
  obtain ⟨d, h1, h2, h3⟩ := hrow
  have hr := run_loadAt_mid W g off t r.toList d h h1 h2 (by rw [h3, ← hn]; simp)
  unfold execOp
  simp only [Instr.loadAt, Instr.sureAddr, Sem.run_bind, Sem.run_pure, Result.andThen_ok] at hr
  simp only [ho, hx, Instr.loadAt, Instr.sureAddr, Sem.run_bind, Sem.run_pure, Result.andThen_ok, hr]
set_option maxRecDepth 4000 in
theorem gd_build15 {P : Program} {ops : Array Oper} {Q : Exit → Act → World → Prop} {dst : Option Nat} {ty : TypeId} {k : Nat} {ps : Array (Nat × Operand)} {t : TypeId} {pos : String} {af : Array Edge} {rest : List Oper} {a : Act} {w : World} (h : wpList P ops Q ({ dst := dst, op := .buildSlice ty k ps, type := t, pos := pos, after := af, guard := none } :: rest) a w) : wpList P ops Q ({ dst := dst, op := .buildSlice ty k ps, type := t, pos := pos, after := af, guard := none } :: rest) a w := h

/-! The document's and the law's: append(append(nil, ..), ..). -/
set_option maxRecDepth 100000 in
set_option maxHeartbeats 8000000 in
theorem rall15_any {w : World} {c : ScC} {s : SchT} (h : ScAt w c s) (hby : (s.rules.length + 1) * 112 ≤ 140737488355328) : Calls Try.prog 19 #[.agg c.row] w (NewU w (allT s)) := by
  obtain ⟨R, nr, cr, e, o1, o2, o3, o4, o5, o6, cap⟩ := c
  have hb : Below w.heap.size w (w.alloc (.cells (ScC.mk R nr cr e o1 o2 o3 o4 o5 o6 cap).row 30)) := (Below.refl _ _).alloc (Nat.le_refl _) _
  have hv := VarR.new w 30 (ScC.mk R nr cr e o1 o2 o3 o4 o5 o6 cap).row
  obtain ⟨W0, hW⟩ : ∃ W0, w.alloc (.cells (ScC.mk R nr cr e o1 o2 o3 o4 o5 o6 cap).row 30) = W0 := ⟨_, rfl⟩
  rw [hW] at hb hv
  obtain ⟨cs, hcs⟩ := h.rules
  have hN : s.rules.length = nr := h.len
  have HL := hd hcs
  have HE := hd (show RuAt w e s.els from h.els)
  have HN := hd hN
  have hby2 : (nr + 1) * 112 ≤ 140737488355328 := hN ▸ hby
  have HW := hd hW
  have HSS := hd (show Below w.heap.size w W0.drew ∧ VarR 30 W0.drew w.heap.size (ScC.mk R nr cr e o1 o2 o3 o4 o5 o6 cap).row from ⟨hb.drew, hv⟩)
  clear h hby hb hv hW hcs hN
  go_enter Try.func19, Try.ntmps19
  go_upto_region 1 with fail
  rw [HW.out]
  refine Y_start (S := fun W' => Below w.heap.size w W' ∧ VarR 30 W' w.heap.size (ScC.mk R nr cr e o1 o2 o3 o4 o5 o6 cap).row) (z := fun i => decide (7 ≤ i)) (by kernel_rfl) ?_
  refine Y_take (i := 0) (n := 7) (.pointer (some ⟨w.heap.size, 0, none⟩)) rfl (by kernel_rfl) (by kernel_rfl) (by kernel_rfl) (by kernel_rfl) (fun _ _ _ h => h) (by rfl) (fun W9 hW9 => ?_) HSS.out ?_
  · go_simp
  simp only [Act.put, List.setIfInBounds_toArray, List.set_cons_succ, List.set_cons_zero, List.getElem_toArray, List.getElem_cons_zero]
  refine Y_take (i := 1) (n := 6) (.slice R nr cr) rfl (by kernel_rfl) (by kernel_rfl) (by kernel_rfl) (by kernel_rfl) (fun _ _ _ h => h) (by rfl) (fun W9 hW9 => ?_) HSS.out ?_
  · have l0 : W9.cell? ⟨w.heap.size, 0, none⟩ = some (.slice R nr cr) := hW9.2.cell 0 _ rfl
    clear hW9
    go_simp
  simp only [Act.put, List.setIfInBounds_toArray, List.set_cons_succ, List.set_cons_zero, List.getElem_toArray, List.getElem_cons_succ, List.getElem_cons_zero]
  refine Y_take (i := 3) (n := 5) (.pointer (some ⟨w.heap.size, 1, none⟩)) rfl (by kernel_rfl) (by kernel_rfl) (by kernel_rfl) (by kernel_rfl) (fun _ _ _ h => h) (by rfl) (fun W9 hW9 => ?_) HSS.out ?_
  · go_simp
  simp only [Act.put, List.setIfInBounds_toArray, List.set_cons_succ, List.set_cons_zero, List.getElem_toArray, List.getElem_cons_succ, List.getElem_cons_zero]
  refine Y_take (i := 4) (n := 4) (.agg e.row) rfl (by kernel_rfl) (by kernel_rfl) (by kernel_rfl) (by kernel_rfl) (fun _ _ _ h => h) (by rfl) (fun W9 hW9 => ?_) HSS.out ?_
  · exact exec_load_at rowT_rule (hW9.2.range 1 _ (ScC.els_at ⟨R, nr, cr, e, o1, o2, o3, o4, o5, o6, cap⟩)) rfl _ rfl rfl
  simp only [Act.put, List.setIfInBounds_toArray, List.set_cons_succ, List.set_cons_zero, List.getElem_toArray, List.getElem_cons_succ, List.getElem_cons_zero]
  refine Y_two (i := 2) (j := 5) (n := 3) (by kernel_rfl) rfl rfl (fun K hK => ?_) (fun K hK => ?_)
  · refine step_append_G0 ruleG _ rfl _ _ rfl w.heap.size rfl R nr cr _ (cellsU cs) rfl (by rw [cellsU_len, HL.out.hl, HN.out]) (HL.out.later HSS.out.1).hv (cellsU_all _) (by unfold maxLen; omega) (by omega) HSS.out.1.size (fun A1 c1 w1 o1 b1 at1 => ?_)
    have HS := hd (step_b HSS.out.1 b1)
    have HV2 := hd (HSS.out.2.keep b1)
    have HLT := hd (show w.heap.size < W0.drew.heap.size from HSS.out.2.lt)
    refine hK _ _ (fun _ => ⟨HS.out, HV2.out⟩) ?_
    clear hK K
    simp only [Act.put, List.setIfInBounds_toArray, List.set_cons_succ, List.set_cons_zero, List.getElem_toArray, List.getElem_cons_succ, List.getElem_cons_zero]
    refine Y_one (i := 5) (n := 2) (by kernel_rfl) rfl (fun K hK => ?_)
    refine step_build_rule (c := e) _ rfl rfl rfl ?_
    have o1 := o1.alloc (.cells e.row 27)
    have hvo := one_rule w1 e
    have HS := hd (HS.out.alloc HS.out.size (.cells e.row 27))
    have HV2 := hd (HV2.out.alloc (.cells e.row 27))
    refine hK _ _ (fun _ => ⟨HS.out, HV2.out⟩) ?_
    clear hK K
    simp only [Act.put, List.setIfInBounds_toArray, List.set_cons_succ, List.set_cons_zero, List.getElem_toArray, List.getElem_cons_succ, List.getElem_cons_zero]
    refine Y_one (i := 6) (n := 1) (by kernel_rfl) rfl (fun K hK => ?_)
    refine step_append_GX ruleG _ rfl _ _ rfl w.heap.size (.slice A1 nr c1) nr (cellsU cs) rfl o1 _ 1 1 _ (cellsU [e]) rfl (by rw [cellsU_len]; rfl) hvo (cellsU_all _) (by unfold maxLen; omega) (by omega) HS.out.size (fun A2 c2 w2 o2 g2 at2 => ?_)
    have HS2 := hd (show Below w.heap.size w w2 from agrown_below HS.out g2 (fun j hj => (o1.lt j hj).1))
    have HV := hd (arow_vl o2)
    refine hK _ _ (fun _ => ⟨HS2.out, (g2.block _ HV2.out.lt (fun e => by
      rcases at1 with h | ⟨q, h, hq⟩
      · rw [h] at e; cases e
      · rw [h] at e
        injection e with e
        have h3 := HLT.out
        omega)).trans HV2.out⟩) ?_
    clear hK K o1 o2 g2 at2 hvo
    simp only [Act.put, List.setIfInBounds_toArray, List.set_cons_succ, List.set_cons_zero, List.getElem_toArray, List.getElem_cons_succ, List.getElem_cons_zero]
    refine Y_one (i := 7) (n := 0) (by kernel_rfl) rfl (fun K hK => ?_)
    rw [if_pos (by rfl)]
    go_simp
    refine hK _ _ (fun h => by cases h) (Y_done (by kernel_rfl) ?_)
    clear hK K
    go_wp2_with fail
    go_ret
    refine ⟨A2, nr + 1, c2, cs ++ [e], rfl, by simp [allT, HN.out], ?_, HS2.out⟩
    exact (HL.out.later HS2.out).more (HE.out.later HS2.out) (by rw [cellsU_app]; exact HV.out.2)
  · refine step_build_rule (c := e) _ rfl rfl rfl ?_
    have HS := hd (HSS.out.1.alloc HSS.out.1.size (.cells e.row 27))
    have HV2 := hd (HSS.out.2.alloc (.cells e.row 27))
    have hvo := one_rule W0.drew e
    refine hK _ _ (fun _ => ⟨HS.out, HV2.out⟩) ?_
    clear hK K
    simp only [Act.put, List.setIfInBounds_toArray, List.set_cons_succ, List.set_cons_zero, List.getElem_toArray, List.getElem_cons_succ, List.getElem_cons_zero]
    refine Y_one (i := 2) (n := 2) (by kernel_rfl) rfl (fun K hK => ?_)
    refine step_append_G0 ruleG _ rfl _ _ rfl w.heap.size rfl R nr cr _ (cellsU cs) rfl (by rw [cellsU_len, HL.out.hl, HN.out]) (HL.out.later HS.out).hv (cellsU_all _) (by unfold maxLen; omega) (by omega) HS.out.size (fun A1 c1 w1 o1 b1 at1 => ?_)
    have HS := hd (step_b HS.out b1)
    have hvo := hvo.later b1
    have HLT := hd (show w.heap.size < (W0.drew.alloc (.cells e.row 27)).heap.size from HV2.out.lt)
    have HV2 := hd (HV2.out.keep b1)
    refine hK _ _ (fun _ => ⟨HS.out, HV2.out⟩) ?_
    clear hK K
    simp only [Act.put, List.setIfInBounds_toArray, List.set_cons_succ, List.set_cons_zero, List.getElem_toArray, List.getElem_cons_succ, List.getElem_cons_zero]
    refine Y_one (i := 6) (n := 1) (by kernel_rfl) rfl (fun K hK => ?_)
    refine step_append_GX ruleG _ rfl _ _ rfl w.heap.size (.slice A1 nr c1) nr (cellsU cs) rfl o1 _ 1 1 _ (cellsU [e]) rfl (by rw [cellsU_len]; rfl) hvo (cellsU_all _) (by unfold maxLen; omega) (by omega) HS.out.size (fun A2 c2 w2 o2 g2 at2 => ?_)
    have HS2 := hd (show Below w.heap.size w w2 from agrown_below HS.out g2 (fun j hj => (o1.lt j hj).1))
    have HV := hd (arow_vl o2)
    refine hK _ _ (fun _ => ⟨HS2.out, (g2.block _ HV2.out.lt (fun e => by
      rcases at1 with h | ⟨q, h, hq⟩
      · rw [h] at e; cases e
      · rw [h] at e
        injection e with e
        have h3 := HLT.out
        omega)).trans HV2.out⟩) ?_
    clear hK K o1 o2 g2 at2 hvo
    simp only [Act.put, List.setIfInBounds_toArray, List.set_cons_succ, List.set_cons_zero, List.getElem_toArray, List.getElem_cons_succ, List.getElem_cons_zero]
    refine Y_one (i := 7) (n := 0) (by kernel_rfl) rfl (fun K hK => ?_)
    rw [if_pos (by rfl)]
    go_simp
    refine hK _ _ (fun h => by cases h) (Y_done (by kernel_rfl) ?_)
    clear hK K
    go_wp2_with fail
    go_ret
    refine ⟨A2, nr + 1, c2, cs ++ [e], rfl, by simp [allT, HN.out], ?_, HS2.out⟩
    exact (HL.out.later HS2.out).more (HE.out.later HS2.out) (by rw [cellsU_app]; exact HV.out.2)
end Go.Proofs.Ytegaapeaeffgoaa

namespace Go.Proofs.Ytegaapeaeffgoaa
open Go.RowKit

theorem urun_zeros (n : Nat) (h0 : 0 < n) (hn : n ≤ 100000) (w : World) (ty : TypeId) : ∃ cap cells, (Builtin.append_ #[22, 3] ty #[.slice none 0 0, .int .i64 n]).run Try.prog w = .ok (.slice (some ⟨w.heap.size, 0, none⟩) n cap) (w.drew.alloc (.cells cells 27)) ∧ n ≤ cap ∧ cap ≤ maxLen ∧ cells.size = cap * 8 := by
  obtain ⟨i0, hi, hz0, hz1, hz2⟩ := info_parts ruleInfo
  have hc := grownCap_ge w n 0 27
  refine ⟨_, _, Lib.run_append_nil_zeros w 22 3 ty 27 i0 _ .i64 .i64 Try.underlying22 Try.underlying3 hi hz0 n h0 (by omega) (by omega) (by rw [hz2]; omega), hc, grownCap_le_maxLen w n 0 _ (by unfold maxLen; omega), ?_⟩
  simp [Builtin.zeroCells, Value.cells, RuC.row]
  omega

set_option maxRecDepth 4000 in
set_option maxHeartbeats 1000000 in
theorem ugrow_any (n : Nat) (w : World) (hn : n ≤ 100000) : Calls Try.prog 69 #[.slice none 0 0, .int .i64 n] w (NewX 27 8 w 0 []) := by
  by_cases h0 : 0 < n
  · obtain ⟨cap, cells, hrun, h1, h2, h3⟩ := urun_zeros n h0 hn w 22
    have H3 := hd h3
    have HRun := hd hrun
    have h0i : (0 : Int) < n := by omega
    clear h3 hrun
    go_enter Try.func69, Try.ntmps69
    go_wp2_with (at_builtin; refine Lib.wpList_append_run _ rfl (.tmp 20) (.tmp 21) _ _ rfl (.slice none 0 0) (.int .i64 n) rfl rfl _ _ HRun.out ?_)
    go_ret
    exact ⟨_, _, rfl, World.ownsRow_made w.drew cells cap (Nat.le_refl _) h2 (by rw [H3.out]), ((below_drewN (Below.refl _ _) 1).alloc (Nat.le_refl _) _)⟩
  · obtain rfl : n = 0 := by omega
    go_enter Try.func69, Try.ntmps69
    go_wp2
    go_ret
    exact ⟨none, 0, rfl, World.ownsRow_nil _ _ _ _, Below.refl _ _⟩

set_option maxRecDepth 100000 in
set_option maxHeartbeats 4000000 in
/-- Two lists, one behind the other. -/
theorem uconcat_any {w : World} {b o n m c d cap : Nat} {A B : Option Addr} {cs ds : List RuC} (hn : cs.length = n) (hm : ds.length = m) (ln : n ≤ 1000) (lm : m ≤ 1000) (hb : b < w.heap.size) (h0 : w.cell? ⟨b, o, none⟩ = some (.slice A n c)) (h1 : w.cell? ⟨b, o + 1, none⟩ = some (.slice B m d))
    (hA : VL w w.heap.size A (cellsU cs)) (hB : VL w w.heap.size B (cellsU ds)) : Calls Try.prog 47 #[.slice (some ⟨b, o, none⟩) 2 cap] w (NewX 27 8 w (n + m) (cellsU (cs ++ ds))) := by
  have HN := hd hn
  have HM := hd hm
  have HA := hd hA
  have HB := hd hB
  have H0 := hd h0
  have H1 := hd h1
  have HG := hd (ugrow_any (n + m) w (by omega))
  clear hn hm hA hB h0 h1
  go_enter Try.func47, Try.ntmps47
  go_wp2
  go_loop [3, 11] (fun s i => (i = .int .i64 0 ∧ s = .int .i64 0) ∨ (i = .int .i64 1 ∧ s = .int .i64 n) ∨ (i = .int .i64 2 ∧ s = .int .i64 ((n + m : Nat) : Int))) (fun _ i => 2 - (intOf i).toNat)
  case atStart => exact .inl ⟨rfl, rfl⟩
  case round =>
    rcases hrel with ⟨rfl, rfl⟩ | ⟨rfl, rfl⟩ | ⟨rfl, rfl⟩
    · have hc := H0.out
      go_wp2
      go_round
      case rel => exact .inr (.inl ⟨rfl, by simp⟩)
      case measure => simp [intOf]
    · have hc := H1.out
      go_wp2
      go_round
      case rel => exact .inr (.inr ⟨rfl, by simp⟩)
      case measure => simp [intOf]
    · go_wp2_with fail
      refine HG.out.mono ?_
      rintro e w1 ⟨A1, c1, rfl, ho1, hb1⟩
      have HO1 := hd ho1
      have HB1 := hd hb1
      clear ho1 hb1
      go_wp2_with fail
      go_loopw [6, 27] (fun v i wr => ∃ k A2 c2 ls, v = .slice A2 ls.length c2 ∧ i = .int .i64 ((k : Nat) : Int) ∧ Hid (wr.ownsRow w.heap.size 27 8 (.slice A2 ls.length c2) ls.length (cellsU ls)) ∧ Hid (Below w.heap.size w wr) ∧ ((k = 0 ∧ ls = []) ∨ (k = 1 ∧ ls = cs) ∨ (k = 2 ∧ ls = cs ++ ds))) (fun _ i _ => 2 - (intOf i).toNat)
      case atStart => exact ⟨0, A1, c1, [], rfl, rfl, HO1, HB1, .inl ⟨rfl, rfl⟩⟩
      case round =>
        obtain ⟨k, A2, c2, ls, rfl, rfl, HO, HBr, hk⟩ := hrel
        clear HO1 HB1
        rcases hk with ⟨rfl, rfl⟩ | ⟨rfl, rfl⟩ | ⟨rfl, rfl⟩
        · have hc := (HBr.out.cell (p := ⟨b, o, none⟩) hb).trans H0.out
          go_wp2_with (at_builtin; refine wpList_append_GX ruleG _ rfl (.tmp 31) (.tmp 32) rfl w.heap.size _ 0 [] rfl HO.out A n c w.heap.size (cellsU cs) rfl (by rw [cellsU_len, HN.out]) (HA.out.below HBr.out) (cellsU_all cs) (by unfold maxLen; omega) (by omega) HBr.out.size ?_; intro A3 c3 w3 ho3 hg3 hat3)
          rw [Nat.zero_add, List.nil_append] at ho3
          have HO3 := hd ho3
          have HB3 := hd (agrown_below HBr.out hg3 (fun j hj => (HO.out.lt j hj).1))
          clear ho3 hg3 hat3
          go_roundw
          case rel => exact ⟨1, A3, c3, cs, by rw [HN.out], by go_num, by rw [HN.out]; exact HO3, HB3, .inr (.inl ⟨rfl, rfl⟩)⟩
          case measure => simp [intOf]
        · have hc := (HBr.out.cell (p := ⟨b, o + 1, none⟩) hb).trans H1.out
          have ln' := HN.out
          go_wp2_with (at_builtin; refine wpList_append_GX ruleG _ rfl (.tmp 31) (.tmp 32) rfl w.heap.size _ ls.length (cellsU ls) rfl HO.out B m d w.heap.size (cellsU ds) rfl (by rw [cellsU_len, HM.out]) (HB.out.below HBr.out) (cellsU_all ds) (by unfold maxLen; omega) (by omega) HBr.out.size ?_; intro A3 c3 w3 ho3 hg3 hat3)
          rw [← cellsU_app] at ho3
          have HO3 := hd ho3
          have HB3 := hd (agrown_below HBr.out hg3 (fun j hj => (HO.out.lt j hj).1))
          clear ho3 hg3 hat3
          go_roundw
          case rel => exact ⟨2, A3, c3, ls ++ ds, by rw [List.length_append, HM.out, HN.out], by go_num, by rw [List.length_append, HM.out]; exact HO3, HB3, .inr (.inr ⟨rfl, rfl⟩)⟩
          case measure => simp [intOf]
        · have hl : (cs ++ ds).length = n + m := by rw [List.length_append, HN.out, HM.out]
          rw [hl] at HO
          rw [hl]
          clear hl
          go_wp2
          go_ret
          exact ⟨A2, c2, rfl, HO.out, HBr.out⟩


/-- A row of rules of the call's own, their Kids in what was there at w0. -/
def NewU0 (w0 w : World) (us : List RuleT) (e : Ending) (w' : World) : Prop := ∃ A n c cs, e = .returned (.slice A n c) ∧ us.length = n ∧ w'.ownsRow w.heap.size 27 8 (.slice A n c) n (cellsU cs) ∧ cs.length = us.length ∧ (∀ (k : Nat) (c : RuC) (a : RuleT), cs[k]? = some c → us[k]? = some a → RuAt w0 c a) ∧ Below w.heap.size w w'
set_option maxRecDepth 4000 in
theorem own_weaken {w : World} {base base' n size : Nat} {v : Value} {t : TypeId} {xs : List Value} (h : w.ownsRow base t size v n xs) (hb : base' ≤ base) : w.ownsRow base' t size v n xs := by
  refine ⟨h.1, ?_⟩
  rcases h.2 with e | ⟨q, cap, cur, e, hbg, rest⟩
  · exact .inl e
  · exact .inr ⟨q, cap, cur, e, Nat.le_trans hb hbg, rest⟩
set_option maxRecDepth 100000 in
set_option maxHeartbeats 4000000 in
theorem rules_new {w0 w : World} {c : ScC} {s : SchT} (h : ScAt w0 c s) (hbw : Below w0.heap.size w0 w) (hl : s.rules.length ≤ 1000) : Calls Try.prog 22 #[.agg c.row] w (NewU0 w0 w (allT s)) := by
  obtain ⟨R, nr, cr, e, o1, o2, o3, o4, o5, o6, cap⟩ := c
  have hb : Below w.heap.size w (w.alloc (.cells (ScC.mk R nr cr e o1 o2 o3 o4 o5 o6 cap).row 30)) := (Below.refl _ _).alloc (Nat.le_refl _) _
  have hv := VarR.new w 30 (ScC.mk R nr cr e o1 o2 o3 o4 o5 o6 cap).row
  obtain ⟨W0, hW⟩ : ∃ W0, w.alloc (.cells (ScC.mk R nr cr e o1 o2 o3 o4 o5 o6 cap).row 30) = W0 := ⟨_, rfl⟩
  rw [hW] at hb hv
  obtain ⟨cs, hcs⟩ := h.rules
  have hN : s.rules.length = nr := h.len
  have HL := hd hcs
  have HE := hd (show RuAt w0 e s.els from h.els)
  have HN := hd hN
  have hl2 : nr ≤ 1000 := hN ▸ hl
  have HW := hd hW
  have HB := hd hb
  have V1 := hd hv
  have l0 : W0.cell? ⟨w.heap.size, 0, none⟩ = some (.slice R nr cr) := hv.cell 0 _ rfl
  obtain ⟨W1, hW1⟩ : ∃ W1, W0.alloc (.cells e.row 27) = W1 := ⟨_, rfl⟩
  obtain ⟨g, hg⟩ : ∃ g, W0.heap.size = g := ⟨_, rfl⟩
  have hb1 : Below W0.heap.size W0 W1 := hW1 ▸ (Below.refl _ _).alloc (Nat.le_refl _) _
  have ho : VL W1 W1.heap.size (some ⟨g, 0, none⟩) (cellsU [e]) := by rw [← hW1, ← hg]; exact one_rule W0 e
  obtain ⟨W2, hW2⟩ : ∃ W2, W1.alloc (.cells #[.slice R nr cr, .slice (some ⟨g, 0, none⟩) 1 1] 22) = W2 := ⟨_, rfl⟩
  obtain ⟨g2, hg2⟩ : ∃ g2, W1.heap.size = g2 := ⟨_, rfl⟩
  have hb2 : Below W1.heap.size W1 W2 := hW2 ▸ (Below.refl _ _).alloc (Nat.le_refl _) _
  have hv2 : VarR 22 W2 g2 #[.slice R nr cr, .slice (some ⟨g, 0, none⟩) 1 1] := by rw [← hW2, ← hg2]; exact VarR.new W1 _ _
  have HC := hd (uconcat_any (w := W2) (b := g2) (o := 0) (n := nr) (m := 1) (c := cr) (d := 1) (cap := 2) (A := R) (B := some ⟨g, 0, none⟩) (cs := cs) (ds := [e]) (by rw [hcs.hl]; exact hN) rfl hl2 (by omega) hv2.lt (hv2.cell 0 _ rfl) (hv2.cell 1 _ rfl) (((hcs.later hbw).later hb).hv.later hb1 |>.later hb2) (ho.later hb2))
  have HB2 := hd (step_b (step_b hb hb1) hb2)
  have HS2 := hd (step_b (step_b hb hb1) hb2).size
  have HW1 := hd hW1
  have HW2 := hd hW2
  have HG := hd hg
  have HG2 := hd hg2
  clear h hl hb hv hW hcs hN hbw hb1 ho hb2 hv2 hW1 hW2 hg hg2
  go_enter Try.func22, Try.ntmps22
  go_upto_region 1 with fail
  rw [HW.out]
  go_wp2_with (first
    | ((with_reducible refine gd_load (ty := 27) (x := .tmp 5) ?_); refine wpList_load_at rowT_rule (r := e.row) (V1.out.range 1 _ (ScC.els_at ⟨R, nr, cr, e, o1, o2, o3, o4, o5, o6, cap⟩)) rfl _ rfl rfl rfl ?_)
    | ((with_reducible refine gd_build15 (ty := 22) ?_); refine wpList_build_rule (c := e) _ rfl rfl rfl ?_; rw [HW1.out, HG.out])
    | (go_at_call 47; rw [HW2.out, HG2.out]; refine HC.out.mono ?_; rintro e9 w3 ⟨A3, c3, rfl, ho3, b9⟩; have HO := hd ho3; have HB := hd (step_b HB2.out b9); clear ho3 b9))
  go_ret
  refine ⟨A3, nr + 1, c3, cs ++ [e], rfl, by simp [allT, HN.out], own_weaken HO.out HS2.out, by simp [allT, HL.out.hl], ?_, HB.out⟩
  intro k x a h1 h2
  rcases Nat.lt_or_ge k s.rules.length with hk | hk
  · rw [List.getElem?_append_left (by rw [HL.out.hl]; exact hk)] at h1
    rw [allT, List.getElem?_append_left hk] at h2
    exact HL.out.ha k x a h1 h2
  · rw [List.getElem?_append_right (by rw [HL.out.hl]; exact hk)] at h1
    rw [allT, List.getElem?_append_right hk] at h2
    rw [HL.out.hl] at h1
    cases hj : k - s.rules.length with
    | zero =>
      rw [hj] at h1 h2
      simp at h1 h2
      subst h1 h2
      exact HE.out
    | succ j => rw [hj] at h1; simp at h1
set_option maxRecDepth 4000 in
theorem rules_any {w : World} {c : ScC} {s : SchT} (h : ScAt w c s) (hl : s.rules.length ≤ 1000) : Calls Try.prog 22 #[.agg c.row] w (NewU w (allT s)) :=
  (rules_new h (Below.refl _ _) hl).mono fun _ _w' ⟨A, n, c, cs, he, hn, ho, hl2, ha, hb⟩ => ⟨A, n, c, cs, he, hn, ⟨(arow_vl ho).2, hl2, fun k x a h1 h2 => (ha k x a h1 h2).later hb⟩, hb⟩

end Go.Proofs.Ytegaapeaeffgoaa

namespace Go.Proofs.Ytegaapeaeffgoaa
open Go.RowKit Go.Maps Go.WideMaps

theorem lawS : Keyed Try.prog 9 := string_keyed Try.underlying9
abbrev klS (s : Nm) : Lit := .string s.data.toList
set_option maxRecDepth 4000 in
theorem klS_inj {a b : Nm} (h : klS a = klS b) : a = b := by
  injection h with h
  exact ByteArray.ext (Array.toList_inj.1 h)
set_option maxRecDepth 4000 in
theorem klS_key (k : Nm) : WideAt.IsKeyLit (klS k) := trivial
def heldB (v : Value) : Option (DataW Value × List MemPlace) := some (.held v, [])
/-- Block b is a map with at most n entries, whose keys are just those that S takes. -/
def OwnB (w : World) (b n : Nat) (S : Nm → Prop) : Prop := ∃ D : DataW Value, w.ownsMap Try.prog 9 heldB b n D ∧ ∀ k, Maps.has D (klS k) = true ↔ S k
set_option maxRecDepth 4000 in
theorem OwnB.made (w : World) : OwnB (w.alloc (.map #[] 0)) w.heap.size 0 (fun _ => False) := ⟨.map [], World.ownsMap_made w Try.prog 9 _, fun k => by
  constructor
  · intro h; simp [Maps.has] at h
  · exact False.elim⟩
set_option maxRecDepth 4000 in
theorem OwnB.kept {w w' : World} {b n : Nat} {S : Nm → Prop} {row : Option Nat} (h : OwnB w b n S) (hg : w.grownBy w' row) (hne : some b ≠ row) : OwnB w' b n S := by
  obtain ⟨D, h1, h2⟩ := h
  exact ⟨D, h1.kept hg hne, h2⟩
set_option maxRecDepth 4000 in
theorem OwnB.lt {w : World} {b n : Nat} {S : Nm → Prop} (h : OwnB w b n S) : b < w.heap.size := by
  obtain ⟨D, h1, _⟩ := h
  exact h1.lt
set_option maxRecDepth 4000 in
theorem OwnB.later {w w' : World} {b n : Nat} {S : Nm → Prop} (h : OwnB w b n S) (hb : Below w.heap.size w w') : OwnB w' b n S := h.kept (row := none) ⟨hb.os, hb.tape, hb.output, hb.size, fun i hi _ => hb.block i hi⟩ (by simp)
set_option maxRecDepth 4000 in
theorem OwnB.congr {w : World} {b n : Nat} {S T : Nm → Prop} (h : OwnB w b n S) (hst : ∀ k, S k ↔ T k) : OwnB w b n T := by
  obtain ⟨D, h1, h2⟩ := h
  exact ⟨D, h1, fun k => (h2 k).trans (hst k)⟩
set_option maxRecDepth 4000 in
/-- One name more. -/
theorem step_put_B {ops : Array Oper} {o : Oper} {a : Act} {K : Act → World → Prop} {Q : Exit → Act → World → Prop} {F : Prop} {W : World} (hgd : o.guard = none) (m x v : Operand) (hop : o.op = Op.mapUpdate 96 m x v)
    {b n : Nat} {S : Nm → Prop} (hm : a.eval m = .map (some b)) (hown : OwnB W b n S) (hn : n < maxLen) (s : Nm) (hx : a.eval x = .string s) (hs : FitN1 s) (hv : a.eval v = .bool true)
    (hK : ∀ W', OwnB W' b (n + 1) (fun k => k = s ∨ S k) → W.grownBy W' (some b) → K (a.put o.dst undef) W') : if Region.wanted o (yielded ops a.tmps) = true then Oper.wp Try.prog o a W K Q else F := by
  have hw : Region.wanted o (yielded ops a.tmps) = true := by simp [Region.wanted, hgd]
  rw [if_pos hw]
  obtain ⟨D, h1, h2⟩ := hown
  obtain ⟨w', hrun, r1, r2⟩ := h1.update lawS Try.underlying96 hn (keyOf_string_mk Try.underlying9 (show s.size ≤ maxLen from hs)) (val := .bool true) (d := .held (.bool true)) (ps := []) rfl
  unfold Oper.wp
  simp [execOp, hop, hm, hx, hv, hrun, Result.andThen]
  refine hK w' ⟨_, r1, fun k => ?_⟩ r2
  have hT := h1.tidy lawS
  by_cases e : k = s
  · subst e
    rw [has_put_same hT.isMap (klS_key k)]
    simp
  · rw [has_put_other (fun e' => e (klS_inj e')), h2 k]
    simp [e]
set_option maxRecDepth 4000 in
/-- One name less. -/
theorem wpList_del_B (w : World) {ops : Array Oper} {rest : List Oper} {o : Oper} {a : Act} {Q : Exit → Act → World → Prop} (hg : o.guard = none) (m x : Operand)
    (hop : o.op = Op.call { callee := Callee.builtin Builtin.delete, args := #[m, x], argTypes := #[96, 9] })
    (b n : Nat) (S : Nm → Prop) (hm : a.eval m = .map (some b)) (hown : OwnB w b n S) (s : Nm) (hx : a.eval x = .string s) (hs : FitN1 s)
    (hK : ∀ w', OwnB w' b n (fun k => S k ∧ k ≠ s) → w.grownBy w' (some b) → wpList Try.prog ops Q rest (a.put o.dst (.tuple #[])) w') : wpList Try.prog ops Q (o :: rest) a w := by
  obtain ⟨D, h1, h2⟩ := hown
  refine wpList_delete_own w hg m x 96 9 hop 4 lawS Try.underlying96 heldB b n D hm h1 (.string s) (klS s) hx (keyOf_string_mk Try.underlying9 (show s.size ≤ maxLen from hs)) (fun w' h3 h4 => hK w' ⟨_, h3, fun k => ?_⟩ h4.grown)
  by_cases e : k = s
  · subst e
    rw [has_del_same]
    simp
  · rw [has_del_other (fun e' => e (klS_inj e')), h2 k]
    simp [e]
set_option maxRecDepth 4000 in
theorem own_size {w : World} {b n : Nat} {D : DataW Value} (h : w.ownsMap Try.prog 9 heldB b n D) : Maps.size D ≤ n := by
  obtain ⟨es, clock, hb, F, hs, rfl⟩ := h
  simpa [Maps.size, length_sorted] using hs

end Go.Proofs.Ytegaapeaeffgoaa

namespace Go.Proofs.Ytegaapeaeffgoaa
open Go.Shelf
def sortStr_ren : Go.Shelf.Ren := ⟨fun | 190 => 71 | 125 => 73 | 258 => 72 | 128 => 83 | 129 => 84 | 302 => 74 | 303 => 75 | 304 => 76 | 305 => 77 | 306 => 78 | 307 => 79 | 308 => 80 | 309 => 81 | 310 => 82 | 333 => 85 | 329 => 86 | 330 => 87 | 334 => 88 | 335 => 89 | 336 => 90 | 344 => 91 | n => n, fun | 31 => 77 | 9 => 9 | 3 => 3 | 46 => 100 | 0 => 0 | 51 => 110 | 53 => 112 | 4 => 4 | 183 => 103 | 182 => 102 | 131 => 53 | 5 => 5 | 218 => 113 | 222 => 117 | 228 => 119 | 229 => 120 | n => n, fun | n => n⟩
theorem sortStr : Go.Proofs.Lays.n190 Try.prog sortStr_ren := {
  mixed := by kernel_rfl
  f125 := Try.func73.trans (congrArg some (by kernel_rfl))
  f128 := Try.func83.trans (congrArg some (by kernel_rfl))
  f129 := Try.func84.trans (congrArg some (by kernel_rfl))
  f190 := Try.func71.trans (congrArg some (by kernel_rfl))
  f258 := Try.func72.trans (congrArg some (by kernel_rfl))
  f302 := Try.func74.trans (congrArg some (by kernel_rfl))
  f303 := Try.func75.trans (congrArg some (by kernel_rfl))
  f304 := Try.func76.trans (congrArg some (by kernel_rfl))
  f305 := Try.func77.trans (congrArg some (by kernel_rfl))
  f306 := Try.func78.trans (congrArg some (by kernel_rfl))
  f307 := Try.func79.trans (congrArg some (by kernel_rfl))
  f308 := Try.func80.trans (congrArg some (by kernel_rfl))
  f309 := Try.func81.trans (congrArg some (by kernel_rfl))
  f310 := Try.func82.trans (congrArg some (by kernel_rfl))
  f329 := Try.func86.trans (congrArg some (by kernel_rfl))
  f330 := Try.func87.trans (congrArg some (by kernel_rfl))
  f333 := Try.func85.trans (congrArg some (by kernel_rfl))
  f334 := Try.func88.trans (congrArg some (by kernel_rfl))
  f335 := Try.func89.trans (congrArg some (by kernel_rfl))
  f336 := Try.func90.trans (congrArg some (by kernel_rfl))
  f344 := Try.func91.trans (congrArg some (by kernel_rfl))
  t0 := Try.underlying0
  a0 := Try.isAgg0
  z0 := Try.sizeOf0
  v0 := Try.zeroValue0
  t3 := Try.underlying3
  a3 := Try.isAgg3
  z3 := Try.sizeOf3
  v3 := Try.zeroValue3
  t4 := Try.underlying4
  a4 := Try.isAgg4
  z4 := Try.sizeOf4
  v4 := Try.zeroValue4
  t5 := Try.underlying5
  a5 := Try.isAgg5
  z5 := Try.sizeOf5
  v5 := Try.zeroValue5
  t9 := Try.underlying9
  a9 := Try.isAgg9
  z9 := Try.sizeOf9
  v9 := Try.zeroValue9
  t31 := Try.underlying77
  a31 := Try.isAgg77
  z31 := Try.sizeOf77
  v31 := Try.zeroValue77
  t46 := Try.underlying100
  a46 := Try.isAgg100
  z46 := Try.sizeOf100
  v46 := Try.zeroValue100
  t51 := Try.underlying110
  a51 := Try.isAgg110
  z51 := Try.sizeOf110
  v51 := Try.zeroValue110
  t53 := Try.underlying112
  a53 := Try.isAgg112
  z53 := Try.sizeOf112
  v53 := Try.zeroValue112
  t131 := Try.underlying53
  a131 := Try.isAgg53
  z131 := Try.sizeOf53
  v131 := Try.zeroValue53
  t182 := Try.underlying102
  a182 := Try.isAgg102
  z182 := Try.sizeOf102
  v182 := Try.zeroValue102
  t183 := Try.underlying103
  a183 := Try.isAgg103
  z183 := Try.sizeOf103
  v183 := Try.zeroValue103
  t218 := Try.underlying113
  a218 := Try.isAgg113
  z218 := Try.sizeOf113
  v218 := Try.zeroValue113
  t222 := Try.underlying117
  a222 := Try.isAgg117
  z222 := Try.sizeOf117
  v222 := Try.zeroValue117
  t228 := Try.underlying119
  a228 := Try.isAgg119
  z228 := Try.sizeOf119
  v228 := Try.zeroValue119
  t229 := Try.underlying120
  a229 := Try.isAgg120
  z229 := Try.sizeOf120
  v229 := Try.zeroValue120 }
end Go.Proofs.Ytegaapeaeffgoaa
