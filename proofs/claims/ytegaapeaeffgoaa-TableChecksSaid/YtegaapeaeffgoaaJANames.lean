/- The program's Names. The nodes that are asked: leaf, elem, asked. -/
import Derived.Test.YtegaapeaeffgoaaJARules
import Derived.Test.YtegaapeaeffgoaaJAForm2
import Derived.Shelf.Sort.Plain
import Derived.Sort.OwnSorted
import Derived.Sort.KeysCollected
namespace Go.Proofs.Ytegaapeaeffgoaa
open Go.RowKit Go.Maps Go.WideMaps Go.Sort

/-- Names told: just those that S takes. -/
def NewNm (w : World) (S : Nm → Prop) (e : Ending) (w' : World) : Prop := ∃ (A : Option Addr) (n c : Nat) (ts : List Nm), e = .returned (.slice A n c) ∧ ts.length = n ∧ n ≤ 3000 ∧ VL w' w'.heap.size A (ts.map Value.string) ∧ (∀ k, k ∈ ts ↔ S k) ∧ (∀ b o, A = some ⟨b, o, none⟩ → w.heap.size ≤ b) ∧ Below w.heap.size w w'
def headR (r : RuleT) : List Nm := [r.ty, r.text.ty, r.other.ty, r.fty]
def tailK (l : List PairT) : List Nm := l.flatMap fun p => [p.ty, p.act.ty]
set_option maxRecDepth 4000 in
theorem rawR_parts (r : RuleT) : rawR r = headR r ++ tailK r.kids := rfl
set_option maxRecDepth 4000 in
theorem tailK_step {l : List PairT} {j : Nat} (h : j < l.length) : tailK (l.take (j + 1)) = tailK (l.take j) ++ [(kidAt l j).ty, (kidAt l j).act.ty] := by
  rw [List.take_add_one, List.getElem?_eq_getElem h, kidAt_mem h]
  unfold tailK
  rw [List.flatMap_append]
  rfl
set_option maxRecDepth 4000 in
theorem rawT_step {l : List RuleT} {j : Nat} (h : j < l.length) : (l.take (j + 1)).flatMap rawR = (l.take j).flatMap rawR ++ rawR (rulAt l j) := by
  rw [List.take_add_one, List.getElem?_eq_getElem h, rulAt_mem h, List.flatMap_append]
  congr 1
  show List.flatMap rawR [l[j]] = _
  simp
set_option maxRecDepth 4000 in
theorem off_grown {b : Nat} {W W' : World} (h : W.grownBy W' (some b)) : Off b W W' := ⟨h.os, h.tape, h.output, h.size, fun k hk hne => h.block k hk (fun e => hne (by injection e))⟩
/-- What the body of a round leaves. -/
def InR (w w4 : World) (b g : Nat) (t : TypeId) (r : Array Value) (W : World) : Prop := Below w.heap.size w W ∧ VarR t W g r ∧ Off b w4 W
set_option maxRecDepth 4000 in
theorem InR.upd {w w4 W W' : World} {b g : Nat} {t : TypeId} {r : Array Value} (h : InR w w4 b g t r W) (hg : W.grownBy W' (some b)) (hb : w.heap.size ≤ b) (hne : g ≠ b) : InR w w4 b g t r W' :=
  ⟨agrown_below h.1 hg (fun j hj => by injection hj with hj; omega), (hg.block _ h.2.1.lt (fun e => by injection e with e; exact hne e)).trans h.2.1, h.2.2.trans (off_grown hg)⟩
set_option maxRecDepth 4000 in
theorem OwnB.more {w : World} {b n n' : Nat} {S : Nm → Prop} (h : OwnB w b n S) (hn : n ≤ n') : OwnB w b n' S := by
  obtain ⟨D, ⟨es, clock, h1, h2, h3, h4⟩, h5⟩ := h
  exact ⟨D, ⟨es, clock, h1, h2, Nat.le_trans h3 hn, h4⟩, h5⟩
set_option maxRecDepth 4000 in
theorem str_row (l : List (List UInt8)) : l.map encStr = (l.map fun x => (⟨x.toArray⟩ : Nm)).map Value.string := by simp
set_option maxRecDepth 100000 in
set_option maxHeartbeats 16000000 in
theorem names_any {w : World} {c : ScC} {s : SchT} (h : ScAt w c s) (hl : s.rules.length ≤ 32) (hk : ∀ r ∈ allT s, r.kids.length ≤ 32) : Calls Try.prog 66 #[.agg c.row] w (NewNm w (fun k => k ∈ rawT s ∧ k ≠ noN)) := by
  have hb : Below w.heap.size w (w.alloc (.cells c.row 30)) := (Below.refl _ _).alloc (Nat.le_refl _) _
  have hv := VarR.new w 30 c.row
  obtain ⟨W0, hW⟩ : ∃ W0, w.alloc (.cells c.row 30) = W0 := ⟨_, rfl⟩
  rw [hW] at hb hv
  obtain ⟨b, hbb⟩ : ∃ b, W0.heap.size = b := ⟨_, rfl⟩
  obtain ⟨W1, hW1⟩ : ∃ W1, W0.alloc (.map #[] 0) = W1 := ⟨_, rfl⟩
  have hb1 : Below W0.heap.size W0 W1 := hW1 ▸ (Below.refl _ _).alloc (Nat.le_refl _) _
  have HM := hd (show OwnB W1 b 0 (fun _ => False) by rw [← hW1, ← hbb]; exact OwnB.made W0)
  have HRU := hd (rules_new h (step_b hb hb1) (by omega))
  have HBN := hd (show w.heap.size ≤ b by rw [← hbb]; exact hb.size)
  have HB1N := hd (show b < W1.heap.size from HM.out.lt)
  have HB := hd (step_b hb hb1)
  have V1 := hd (hv.keep hb1)
  have HK := hd hk
  have HLL := hd hl
  have HW := hd hW
  have HW1 := hd hW1
  have HBB := hd hbb
  have hlen : (allT s).length = s.rules.length + 1 := by simp [allT]
  have HLN := hd hlen
  have hmm := @run_makeMap Try.prog
  clear h hl hk hb hv hW hW1 hb1 hbb hlen
  go_enter Try.func66, Try.ntmps66
  go_upto_region 1 with fail
  rw [HW.out]
  go_upto_region 2 with fail
  rw [HW1.out, HBB.out]
  clear hmm
  go_wp2_with (first
    | ((with_reducible refine gd_load (ty := 30) (x := .tmp 1) ?_); refine wpList_load_row rowT_sch V1.out rfl _ rfl rfl rfl ?_)
    | (go_at_call 22; refine HRU.out.mono ?_; rintro e9 w4 ⟨A4, n4, c4, ds, rfl, hn4, ho4, hl4, ha4, b9⟩; have HO := hd ho4; have HL4 := hd hl4; have HA4 := hd ha4; have HN4 := hd hn4; have HM := hd (HM.out.later b9); have HB := hd (step_b HB.out b9); clear hn4 ho4 hl4 ha4 b9))
  have hn33 : n4 ≤ 33 := by have h1 := HN4.out; have h2 := HLN.out; have h3 := HLL.out; omega
  go_loopw [14] (fun i wr => ∃ k : Nat, k ≤ n4 ∧ i = .int .i64 k ∧ Hid (OwnB wr b (k * 68) (fun x => x ∈ ((allT s).take k).flatMap rawR)) ∧ Hid (Below w.heap.size w wr) ∧ Hid (Off b w4 wr)) (fun i _ => n4 - (intOf i).toNat)
  case atStart => exact ⟨0, Nat.zero_le _, rfl, hd (HM.out.congr (fun k => by simp)), HB, hd (Off.refl _ _)⟩
  case round =>
    obtain ⟨k, hk1, rfl, HMr, HBr, HFr⟩ := hrel
    clear HM HB
    by_cases hlt : k < n4
    · have hlt2 : k < (allT s).length := by rw [HN4.out]; exact hlt
      have HRO := hd (row_off HO.out HFr.out HB1N.out)
      obtain ⟨bb, o, hA, hbl, hrg⟩ := (arow_vl HRO.out).2.row (f := fun c : RuC => c.row.toList) (n := 8) RuC.len (by decide) (k := k) (by rw [HL4.out, HN4.out]; exact hlt)
      obtain rfl : A4 = some ⟨bb, o, none⟩ := hA
      obtain ⟨p, hp⟩ : ∃ p, ds[k]'(by rw [HL4.out, HN4.out]; exact hlt) = p := ⟨_, rfl⟩
      rw [hp] at hrg
      have HRA := hd (HA4.out k p (rulAt (allT s) k) (by rw [← hp]; exact List.getElem?_eq_getElem _) (by rw [rulAt_mem hlt2]; exact List.getElem?_eq_getElem hlt2))
      have HRG := hd hrg
      have HKL := hd (HK.out (rulAt (allT s) k) (by rw [rulAt_mem hlt2]; exact List.getElem_mem _))
      clear hrg hbl hp HRO
      obtain ⟨ty, td, tt, od, ot, KA, nk, ck, fill, fty⟩ := p
      have HNK := hd (show (rulAt (allT s) k).kids.length = nk from HRA.out.len)
      have hnk : nk ≤ 32 := HNK.out ▸ HKL.out
      obtain ⟨g, hg⟩ : ∃ g, wr.heap.size = g := ⟨_, rfl⟩
      obtain ⟨W2, hW2⟩ : ∃ W2, wr.alloc (.cells (RuC.mk ty td tt od ot KA nk ck fill fty).row 27) = W2 := ⟨_, rfl⟩
      have hb2 : Below wr.heap.size wr W2 := hW2 ▸ (Below.refl _ _).alloc (Nat.le_refl _) _
      have HSS := hd (show InR w w4 b g 27 (RuC.mk ty td tt od ot KA nk ck fill fty).row W2.drew from ⟨(step_b HBr.out hb2).drew, (by rw [← hW2, ← hg]; exact VarR.new wr _ _), ((HFr.out.trans (Off.of_below hb2)).trans ⟨rfl, rfl, rfl, Nat.le_refl _, fun _ _ _ => rfl⟩)⟩)
      have HM := hd (show OwnB W2.drew b (k * 68) (fun x => x ∈ ((allT s).take k).flatMap rawR) from (HMr.out.later hb2).later (Below.refl _ _).drew)
      have HNE := hd (show g ≠ b by have := HMr.out.lt; omega)
      have HW2 := hd hW2
      have HG := hd hg
      have HF1 := hd (show FitN1 ty by have := HRA.out.fit.ty; rw [HRA.out.hty] at this; exact this)
      have HF2 := hd (show FitN1 tt by have := HRA.out.fit.tt; rw [HRA.out.htext] at this; exact this)
      have HF3 := hd (show FitN1 ot by have := HRA.out.fit.ot; rw [HRA.out.hother] at this; exact this)
      have HF4 := hd (show FitN1 fty by have := HRA.out.fit.fty; rw [HRA.out.hfty] at this; exact this)
      clear hb2 hW2 hg
      go_upto_region 5 with (first
        | ((with_reducible refine gd_load (ty := 27) (x := .tmp 16) ?_); refine wpList_load_at rowT_rule (r := (RuC.mk ty td tt od ot KA nk ck fill fty).row) HRG.out rfl _ rfl rfl rfl ?_)
        | ((with_reducible refine gd_store (ty := 27) (x := .tmp 5) ?_); refine wpList_store_new rowT_rule (r := (RuC.mk ty td tt od ot KA nk ck fill fty).row) rfl rfl (RuC.one _) _ _ rfl rfl rfl rfl rfl rfl ?_))
      rw [HW2.out, HG.out]
      clear HMr HBr HFr HRG
      refine Y_start (S := InR w w4 b g 27 (RuC.mk ty td tt od ot KA nk ck fill fty).row) (z := fun _ => false) (by kernel_rfl) ?_
      refine Y_take (i := 0) (n := 17) (.map (some b)) rfl (by kernel_rfl) (by kernel_rfl) (by kernel_rfl) (by kernel_rfl) (fun _ _ _ h => h) (by rfl) (fun W9 hW9 => ?_) HSS.out ?_
      · go_simp
      simp only [Act.put, List.setIfInBounds_toArray, List.set_cons_succ, List.set_cons_zero, List.getElem_toArray, List.getElem_cons_zero]
      refine Y_take (i := 1) (n := 16) (.pointer (some ⟨g, 0, none⟩)) rfl (by kernel_rfl) (by kernel_rfl) (by kernel_rfl) (by kernel_rfl) (fun _ _ _ h => h) (by rfl) (fun W9 hW9 => ?_) HSS.out ?_
      · go_simp
      simp only [Act.put, List.setIfInBounds_toArray, List.set_cons_succ, List.set_cons_zero, List.getElem_toArray, List.getElem_cons_succ, List.getElem_cons_zero]
      refine Y_take (i := 2) (n := 15) (.string ty) rfl (by kernel_rfl) (by kernel_rfl) (by kernel_rfl) (by kernel_rfl) (fun _ _ _ h => h) (by rfl) (fun W9 hW9 => ?_) HSS.out ?_
      · have l0 : W9.cell? ⟨g, 0, none⟩ = some (.string ty) := hW9.2.1.cell 0 _ rfl
        clear hW9
        go_simp
      simp only [Act.put, List.setIfInBounds_toArray, List.set_cons_succ, List.set_cons_zero, List.getElem_toArray, List.getElem_cons_succ, List.getElem_cons_zero]
      refine Y_take (i := 3) (n := 14) (.map (some b)) rfl (by kernel_rfl) (by kernel_rfl) (by kernel_rfl) (by kernel_rfl) (fun _ _ _ h => h) (by rfl) (fun W9 hW9 => ?_) HSS.out ?_
      · go_simp
      simp only [Act.put, List.setIfInBounds_toArray, List.set_cons_succ, List.set_cons_zero, List.getElem_toArray, List.getElem_cons_succ, List.getElem_cons_zero]
      refine Y_take (i := 4) (n := 13) (.pointer (some ⟨g, 1, none⟩)) rfl (by kernel_rfl) (by kernel_rfl) (by kernel_rfl) (by kernel_rfl) (fun _ _ _ h => h) (by rfl) (fun W9 hW9 => ?_) HSS.out ?_
      · go_simp
      simp only [Act.put, List.setIfInBounds_toArray, List.set_cons_succ, List.set_cons_zero, List.getElem_toArray, List.getElem_cons_succ, List.getElem_cons_zero]
      refine Y_take (i := 5) (n := 12) (.pointer (some ⟨g, 2, none⟩)) rfl (by kernel_rfl) (by kernel_rfl) (by kernel_rfl) (by kernel_rfl) (fun _ _ _ h => h) (by rfl) (fun W9 hW9 => ?_) HSS.out ?_
      · go_simp
      simp only [Act.put, List.setIfInBounds_toArray, List.set_cons_succ, List.set_cons_zero, List.getElem_toArray, List.getElem_cons_succ, List.getElem_cons_zero]
      refine Y_take (i := 6) (n := 11) (.string tt) rfl (by kernel_rfl) (by kernel_rfl) (by kernel_rfl) (by kernel_rfl) (fun _ _ _ h => h) (by rfl) (fun W9 hW9 => ?_) HSS.out ?_
      · have l0 : W9.cell? ⟨g, 2, none⟩ = some (.string tt) := hW9.2.1.cell 2 _ rfl
        clear hW9
        go_simp
      simp only [Act.put, List.setIfInBounds_toArray, List.set_cons_succ, List.set_cons_zero, List.getElem_toArray, List.getElem_cons_succ, List.getElem_cons_zero]
      refine Y_take (i := 7) (n := 10) (.map (some b)) rfl (by kernel_rfl) (by kernel_rfl) (by kernel_rfl) (by kernel_rfl) (fun _ _ _ h => h) (by rfl) (fun W9 hW9 => ?_) HSS.out ?_
      · go_simp
      simp only [Act.put, List.setIfInBounds_toArray, List.set_cons_succ, List.set_cons_zero, List.getElem_toArray, List.getElem_cons_succ, List.getElem_cons_zero]
      refine Y_take (i := 8) (n := 9) (.pointer (some ⟨g, 3, none⟩)) rfl (by kernel_rfl) (by kernel_rfl) (by kernel_rfl) (by kernel_rfl) (fun _ _ _ h => h) (by rfl) (fun W9 hW9 => ?_) HSS.out ?_
      · go_simp
      simp only [Act.put, List.setIfInBounds_toArray, List.set_cons_succ, List.set_cons_zero, List.getElem_toArray, List.getElem_cons_succ, List.getElem_cons_zero]
      refine Y_take (i := 9) (n := 8) (.pointer (some ⟨g, 4, none⟩)) rfl (by kernel_rfl) (by kernel_rfl) (by kernel_rfl) (by kernel_rfl) (fun _ _ _ h => h) (by rfl) (fun W9 hW9 => ?_) HSS.out ?_
      · go_simp
      simp only [Act.put, List.setIfInBounds_toArray, List.set_cons_succ, List.set_cons_zero, List.getElem_toArray, List.getElem_cons_succ, List.getElem_cons_zero]
      refine Y_take (i := 10) (n := 7) (.string ot) rfl (by kernel_rfl) (by kernel_rfl) (by kernel_rfl) (by kernel_rfl) (fun _ _ _ h => h) (by rfl) (fun W9 hW9 => ?_) HSS.out ?_
      · have l0 : W9.cell? ⟨g, 4, none⟩ = some (.string ot) := hW9.2.1.cell 4 _ rfl
        clear hW9
        go_simp
      simp only [Act.put, List.setIfInBounds_toArray, List.set_cons_succ, List.set_cons_zero, List.getElem_toArray, List.getElem_cons_succ, List.getElem_cons_zero]
      refine Y_take (i := 11) (n := 6) (.map (some b)) rfl (by kernel_rfl) (by kernel_rfl) (by kernel_rfl) (by kernel_rfl) (fun _ _ _ h => h) (by rfl) (fun W9 hW9 => ?_) HSS.out ?_
      · go_simp
      simp only [Act.put, List.setIfInBounds_toArray, List.set_cons_succ, List.set_cons_zero, List.getElem_toArray, List.getElem_cons_succ, List.getElem_cons_zero]
      refine Y_take (i := 12) (n := 5) (.pointer (some ⟨g, 7, none⟩)) rfl (by kernel_rfl) (by kernel_rfl) (by kernel_rfl) (by kernel_rfl) (fun _ _ _ h => h) (by rfl) (fun W9 hW9 => ?_) HSS.out ?_
      · go_simp
      simp only [Act.put, List.setIfInBounds_toArray, List.set_cons_succ, List.set_cons_zero, List.getElem_toArray, List.getElem_cons_succ, List.getElem_cons_zero]
      refine Y_take (i := 13) (n := 4) (.string fty) rfl (by kernel_rfl) (by kernel_rfl) (by kernel_rfl) (by kernel_rfl) (fun _ _ _ h => h) (by rfl) (fun W9 hW9 => ?_) HSS.out ?_
      · have l0 : W9.cell? ⟨g, 7, none⟩ = some (.string fty) := hW9.2.1.cell 7 _ rfl
        clear hW9
        go_simp
      simp only [Act.put, List.setIfInBounds_toArray, List.set_cons_succ, List.set_cons_zero, List.getElem_toArray, List.getElem_cons_succ, List.getElem_cons_zero]
      refine Y_one (i := 14) (n := 3) (by kernel_rfl) rfl (fun K hK => ?_)
      refine step_put_B rfl _ _ _ rfl rfl HM.out (by unfold maxLen; omega) ty rfl HF1.out rfl (fun wa hm9 hg9 => ?_)
      have HM := hd hm9
      have HSS := hd (HSS.out.upd hg9 HBN.out HNE.out)
      refine hK _ _ (fun _ => HSS.out) ?_
      clear hK K hm9 hg9
      simp only [Act.put, List.getElem_toArray, List.getElem_cons_succ, List.getElem_cons_zero]
      refine Y_one (i := 15) (n := 2) (by kernel_rfl) rfl (fun K hK => ?_)
      refine step_put_B rfl _ _ _ rfl rfl HM.out (by unfold maxLen; omega) tt rfl HF2.out rfl (fun wb hm9 hg9 => ?_)
      have HM := hd hm9
      have HSS := hd (HSS.out.upd hg9 HBN.out HNE.out)
      refine hK _ _ (fun _ => HSS.out) ?_
      clear hK K hm9 hg9
      simp only [Act.put, List.getElem_toArray, List.getElem_cons_succ, List.getElem_cons_zero]
      refine Y_one (i := 16) (n := 1) (by kernel_rfl) rfl (fun K hK => ?_)
      refine step_put_B rfl _ _ _ rfl rfl HM.out (by unfold maxLen; omega) ot rfl HF3.out rfl (fun wc hm9 hg9 => ?_)
      have HM := hd hm9
      have HSS := hd (HSS.out.upd hg9 HBN.out HNE.out)
      refine hK _ _ (fun _ => HSS.out) ?_
      clear hK K hm9 hg9
      simp only [Act.put, List.getElem_toArray, List.getElem_cons_succ, List.getElem_cons_zero]
      refine Y_one (i := 17) (n := 0) (by kernel_rfl) rfl (fun K hK => ?_)
      refine step_put_B rfl _ _ _ rfl rfl HM.out (by unfold maxLen; omega) fty rfl HF4.out rfl (fun wd hm9 hg9 => ?_)
      have HM := hd hm9
      have HSS := hd (HSS.out.upd hg9 HBN.out HNE.out)
      refine hK _ _ (fun _ => HSS.out) ?_
      clear hK K hm9 hg9
      simp only [Act.put, List.getElem_toArray, List.getElem_cons_succ, List.getElem_cons_zero]
      refine Y_done (by kernel_rfl) ?_
      have HM := hd (HM.out.congr (T := fun x => x ∈ ((allT s).take k).flatMap rawR ++ headR (rulAt (allT s) k)) (fun x => by
        have e1 : (rulAt (allT s) k).ty = ty := HRA.out.hty
        have e2 : (rulAt (allT s) k).text.ty = tt := by rw [HRA.out.htext]
        have e3 : (rulAt (allT s) k).other.ty = ot := by rw [HRA.out.hother]
        have e4 : (rulAt (allT s) k).fty = fty := HRA.out.hfty
        unfold headR
        rw [e1, e2, e3, e4]
        simp only [List.mem_append, List.mem_cons, List.not_mem_nil, or_false]
        constructor
        · rintro (h | h | h | h | h) <;> simp [h]
        · rintro (h | h | h | h | h) <;> simp [h]))
      have l5 : wd.cell? ⟨g, 5, none⟩ = some (.slice KA nk ck) := HSS.out.2.1.cell 5 _ rfl
      have HBD := hd HSS.out.1
      have HFD := hd HSS.out.2.2
      clear HF1 HF2 HF3 HF4 HSS HNE HW2 HG
      go_wp2_with fail
      clear l5
      go_loopw [35] (fun i wq => ∃ j : Nat, j ≤ nk ∧ i = .int .i64 j ∧ Hid (OwnB wq b (k * 68 + 4 + 2 * j) (fun x => x ∈ ((allT s).take k).flatMap rawR ++ headR (rulAt (allT s) k) ++ tailK ((rulAt (allT s) k).kids.take j))) ∧ Hid (Below w.heap.size w wq) ∧ Hid (Off b w4 wq)) (fun i _ => nk - (intOf i).toNat)
      case atStart => exact ⟨0, Nat.zero_le _, rfl, hd (HM.out.congr (fun x => by simp [tailK])), HBD, HFD⟩
      case round =>
        obtain ⟨j, hj1, rfl, HMq, HBq, HFq⟩ := hrel
        clear HM HBD HFD
        by_cases hlj : j < nk
        · have hlj2 : j < (rulAt (allT s) k).kids.length := by rw [HNK.out]; exact hlj
          obtain ⟨kb, ko, hKA, hkl, hkr⟩ := (HRA.out.later HBq.out).kid hlj2
          obtain rfl : KA = some ⟨kb, ko, none⟩ := hKA
          obtain ⟨q, hq⟩ : ∃ q, kidAt (rulAt (allT s) k).kids j = q := ⟨_, rfl⟩
          have hfq := HRA.out.fit.kids (kidAt (rulAt (allT s) k).kids j) (by rw [kidAt_mem hlj2]; exact List.getElem_mem _)
          rw [hq] at hkr hfq
          have HKR := hd hkr
          have HQ := hd hq
          obtain ⟨qt, ⟨qa, qw⟩⟩ := q
          have HF1 := hd (show FitN1 qt from hfq.1)
          have HF2 := hd (show FitN1 qw from hfq.2)
          clear hkr hq hfq hkl
          obtain ⟨g, hg⟩ : ∃ g, wr.heap.size = g := ⟨_, rfl⟩
          obtain ⟨W2, hW2⟩ : ∃ W2, wr.alloc (.cells (PairT.mk qt ⟨qa, qw⟩).row 52) = W2 := ⟨_, rfl⟩
          have hb2 : Below wr.heap.size wr W2 := hW2 ▸ (Below.refl _ _).alloc (Nat.le_refl _) _
          have HSS := hd (show InR w w4 b g 52 (PairT.mk qt ⟨qa, qw⟩).row W2.drew from ⟨(step_b HBq.out hb2).drew, (by rw [← hW2, ← hg]; exact VarR.new wr _ _), ((HFq.out.trans (Off.of_below hb2)).trans ⟨rfl, rfl, rfl, Nat.le_refl _, fun _ _ _ => rfl⟩)⟩)
          have HM := hd (show OwnB W2.drew b (k * 68 + 4 + 2 * j) (fun x => x ∈ ((allT s).take k).flatMap rawR ++ headR (rulAt (allT s) k) ++ tailK ((rulAt (allT s) k).kids.take j)) from (HMq.out.later hb2).later (Below.refl _ _).drew)
          have HNE := hd (show g ≠ b by have := HMq.out.lt; omega)
          have HW2 := hd hW2
          have HG := hd hg
          clear hb2 hW2 hg
          go_upto_region 9 with (first
            | ((with_reducible refine gd_load (ty := 52) (x := .tmp 37) ?_); refine wpList_load_at rowT_pair (r := (PairT.mk qt ⟨qa, qw⟩).row) HKR.out rfl _ rfl rfl rfl ?_)
            | ((with_reducible refine gd_store (ty := 52) (x := .tmp 7) ?_); refine wpList_store_new rowT_pair (r := (PairT.mk qt ⟨qa, qw⟩).row) rfl rfl (PairT.one _) _ _ rfl rfl rfl rfl rfl rfl ?_))
          rw [HW2.out, HG.out]
          clear HMq HBq HFq HKR
          refine Y_start (S := InR w w4 b g 52 (PairT.mk qt ⟨qa, qw⟩).row) (z := fun _ => false) (by kernel_rfl) ?_
          refine Y_take (i := 0) (n := 8) (.map (some b)) rfl (by kernel_rfl) (by kernel_rfl) (by kernel_rfl) (by kernel_rfl) (fun _ _ _ h => h) (by rfl) (fun W9 hW9 => ?_) HSS.out ?_
          · go_simp
          simp only [Act.put, List.setIfInBounds_toArray, List.set_cons_succ, List.set_cons_zero, List.getElem_toArray, List.getElem_cons_zero]
          refine Y_take (i := 1) (n := 7) (.pointer (some ⟨g, 0, none⟩)) rfl (by kernel_rfl) (by kernel_rfl) (by kernel_rfl) (by kernel_rfl) (fun _ _ _ h => h) (by rfl) (fun W9 hW9 => ?_) HSS.out ?_
          · go_simp
          simp only [Act.put, List.setIfInBounds_toArray, List.set_cons_succ, List.set_cons_zero, List.getElem_toArray, List.getElem_cons_succ, List.getElem_cons_zero]
          refine Y_take (i := 2) (n := 6) (.string qt) rfl (by kernel_rfl) (by kernel_rfl) (by kernel_rfl) (by kernel_rfl) (fun _ _ _ h => h) (by rfl) (fun W9 hW9 => ?_) HSS.out ?_
          · have l0 : W9.cell? ⟨g, 0, none⟩ = some (.string qt) := hW9.2.1.cell 0 _ rfl
            clear hW9
            go_simp
          simp only [Act.put, List.setIfInBounds_toArray, List.set_cons_succ, List.set_cons_zero, List.getElem_toArray, List.getElem_cons_succ, List.getElem_cons_zero]
          refine Y_take (i := 3) (n := 5) (.map (some b)) rfl (by kernel_rfl) (by kernel_rfl) (by kernel_rfl) (by kernel_rfl) (fun _ _ _ h => h) (by rfl) (fun W9 hW9 => ?_) HSS.out ?_
          · go_simp
          simp only [Act.put, List.setIfInBounds_toArray, List.set_cons_succ, List.set_cons_zero, List.getElem_toArray, List.getElem_cons_succ, List.getElem_cons_zero]
          refine Y_take (i := 4) (n := 4) (.pointer (some ⟨g, 1, none⟩)) rfl (by kernel_rfl) (by kernel_rfl) (by kernel_rfl) (by kernel_rfl) (fun _ _ _ h => h) (by rfl) (fun W9 hW9 => ?_) HSS.out ?_
          · go_simp
          simp only [Act.put, List.setIfInBounds_toArray, List.set_cons_succ, List.set_cons_zero, List.getElem_toArray, List.getElem_cons_succ, List.getElem_cons_zero]
          refine Y_take (i := 5) (n := 3) (.pointer (some ⟨g, 2, none⟩)) rfl (by kernel_rfl) (by kernel_rfl) (by kernel_rfl) (by kernel_rfl) (fun _ _ _ h => h) (by rfl) (fun W9 hW9 => ?_) HSS.out ?_
          · go_simp
          simp only [Act.put, List.setIfInBounds_toArray, List.set_cons_succ, List.set_cons_zero, List.getElem_toArray, List.getElem_cons_succ, List.getElem_cons_zero]
          refine Y_take (i := 6) (n := 2) (.string qw) rfl (by kernel_rfl) (by kernel_rfl) (by kernel_rfl) (by kernel_rfl) (fun _ _ _ h => h) (by rfl) (fun W9 hW9 => ?_) HSS.out ?_
          · have l0 : W9.cell? ⟨g, 2, none⟩ = some (.string qw) := hW9.2.1.cell 2 _ rfl
            clear hW9
            go_simp
          simp only [Act.put, List.setIfInBounds_toArray, List.set_cons_succ, List.set_cons_zero, List.getElem_toArray, List.getElem_cons_succ, List.getElem_cons_zero]
          refine Y_one (i := 7) (n := 1) (by kernel_rfl) rfl (fun K hK => ?_)
          refine step_put_B rfl _ _ _ rfl rfl HM.out (by unfold maxLen; omega) qt rfl HF1.out rfl (fun wa hm9 hg9 => ?_)
          have HM := hd hm9
          have HSS := hd (HSS.out.upd hg9 HBN.out HNE.out)
          refine hK _ _ (fun _ => HSS.out) ?_
          clear hK K hm9 hg9
          simp only [Act.put, List.getElem_toArray, List.getElem_cons_succ, List.getElem_cons_zero]
          refine Y_one (i := 8) (n := 0) (by kernel_rfl) rfl (fun K hK => ?_)
          refine step_put_B rfl _ _ _ rfl rfl HM.out (by unfold maxLen; omega) qw rfl HF2.out rfl (fun wb hm9 hg9 => ?_)
          have HM := hd hm9
          have HSS := hd (HSS.out.upd hg9 HBN.out HNE.out)
          refine hK _ _ (fun _ => HSS.out) ?_
          clear hK K hm9 hg9
          simp only [Act.put, List.getElem_toArray, List.getElem_cons_succ, List.getElem_cons_zero]
          refine Y_done (by kernel_rfl) ?_
          have HX := hd (HM.out.congr (T := fun x => x ∈ ((allT s).take k).flatMap rawR ++ headR (rulAt (allT s) k) ++ tailK ((rulAt (allT s) k).kids.take (j + 1))) (fun x => by
            rw [tailK_step hlj2, HQ.out]
            simp only [List.mem_append, List.mem_cons, List.not_mem_nil, or_false]
            constructor
            · rintro (h | h | (h | h) | h) <;> simp [h]
            · rintro ((h | h) | h | h | h) <;> simp [h]))
          have HBD := hd HSS.out.1
          have HFD := hd HSS.out.2.2
          clear HF1 HF2 HSS HNE HW2 HG HM HQ
          go_wp2_with fail
          go_roundw
          case rel => exact ⟨j + 1, by omega, by go_num, HX, HBD, HFD⟩
          case measure => simp [intOf]; omega
        · obtain rfl : j = nk := by omega
          have HX := hd ((HMq.out.more (show k * 68 + 4 + 2 * j ≤ (k + 1) * 68 by omega)).congr (T := fun x => x ∈ ((allT s).take (k + 1)).flatMap rawR) (fun x => by
            rw [rawT_step hlt2, rawR_parts, List.take_of_length_le (l := (rulAt (allT s) k).kids) (i := j) (by rw [HNK.out]; exact Nat.le_refl _), List.append_assoc]))
          clear HMq
          go_wp2_with fail
          go_roundw
          case rel => exact ⟨k + 1, by omega, by go_num, HX, HBq, HFq⟩
          case measure => simp [intOf]; omega
    · obtain rfl : k = n4 := by omega
      have HM := hd (HMr.out.congr (T := fun x => x ∈ rawT s) (fun x => by
        rw [List.take_of_length_le (by rw [HN4.out]; exact Nat.le_refl _)]
        exact Iff.rfl))
      obtain ⟨i0, hi, hz0, hz1, hz2⟩ := info_parts strInfo
      clear HMr HFr
      go_upto_region 13 with (at_delete; refine wpList_del_B _ rfl _ _ rfl b (k * 68) _ rfl HM.out noN rfl fit0 ?_; intro w5 hm5 hg5; have HM5 := hd hm5; have HB5 := hd (agrown_below HBr.out hg5 (fun j hj => by injection hj with hj; have := HBN.out; omega)); clear hm5 hg5)
      obtain ⟨D, hown, hS⟩ := HM5.out
      have HS := hd hS
      have hsz := own_size hown
      have hbl := hown.lt
      obtain ⟨M, hM⟩ : ∃ M, Maps.size D = M := ⟨_, rfl⟩
      rw [hM] at hsz
      have HMS := hd hM
      have HOW := hd hown
      clear hS hM HM HM5
      go_wp2_with (first
        | (at_len; refine wpList_len_own _ rfl _ 96 rfl 9 4 Try.underlying96 heldB b _ D rfl HOW.out ?_; rw [HMS.out])
        | (at_make; refine wpList_make_own _ rfl _ _ 77 rfl w5.heap.size 9 i0 _ 1 Try.underlying77 hi hz0 hz1 _ _ _ M rfl rfl rfl (by rw [hz2]; omega) (by unfold maxLen; omega) (Nat.le_refl _) ?_; intro w6 hrow6 hg6)
        | (at_range; refine wpList_range_own _ rfl _ 96 rfl 9 4 lawS Try.underlying96 _ b _ D rfl (hown.kept hg6 (by simp)) ?_; intro w7 hrg7 hg7 hs7))
      have HB6 := hd ((Below.refl w5.heap.size w5).grown hg6 (Nat.le_refl _) (fun j hj => by cases hj))
      have hs6 := hg6.size
      go_loopw [8] (fun v wq => ∃ (left : Lit → Bool) (cnt : Nat) (ss : List (List UInt8)), wq.ranges Try.prog 9 heldB b w6.heap.size (k * 68) D left cnt ∧ ss.length + cnt ≤ M ∧
          wq.ownsRow w5.heap.size 9 1 v ss.length (ss.map encStr) ∧ v ≠ .slice none 0 0 ∧ Hid (Collected D left ss) ∧ Hid (Below w5.heap.size w5 wq))
        (fun _ wq => wq.rangeLeft b w6.heap.size)
      case atStart =>
        exact ⟨_, _, [], hrg7, by rw [HMS.out]; simp, hrow6.kept hg7 (Or.inr (by simp [Value.ownBlock])), by simp, hd (Collected.start D), hd (HB6.out.grown hg7 hs6 (fun j hj => by cases hj))⟩
      case round =>
        obtain ⟨left, cnt, ss, hrg, hcs, hrow, hnn, HC, HNX⟩ := hrel
        clear hs7 hg7 hrow6 hg6 hrg7
        go_wp2_with (first
          | (at_next; refine wpList_next_ranges _ rfl _ rfl 9 lawS heldB encStr id (fun key kl hk => by obtain ⟨x, hx, _⟩ := Maps.keyOf_str Try.underlying9 hk; exact ⟨x, hx⟩) (fun v y hv => ⟨v, rfl⟩) b w6.heap.size (k * 68) _ _ _ rfl hrg ?_ ?_))
        · intro hc0 hl0
          rcases hrow.2 with ⟨hnil, _⟩ | ⟨g, cap, cur, rfl, hbase, hb, h1, h2, h3, h4⟩
          · exact absurd hnil hnn
          have hH : Go.Sort.Holds encStr wr g 0 ss.toArray := holds_of_block hb (by simpa using h4)
          have hgl : g < wr.heap.size := (Array.getElem?_eq_some_iff.1 hb).1
          have HSO := hd (Any.slices_Sort_string sortStr g 0 cap ss wr hH hgl (by omega))
          have HFI := hd (fun (nn : Nat) (os : Array Obj) => (ownsRow_sorted (n := nn) (os := os) (ss := ss) (ts := ss.mergeSort fun x y => decide (x ≤ y)) (by simp) hbase hb h1 h2 h3))
          have HCE := hd (show ∀ x : List UInt8, x ∈ ss ↔ Maps.has D (.string x) = true from fun x => by rw [HC.out.2 x, hl0]; simp)
          have HBS := hd hbase
          clear hl0 hb h4 hH hrg
          go_wp2_with (first | (go_at_call 71; refine HSO.out.mono ?_; rintro e9 w8 ⟨rfl, nn, os, rfl⟩))
          go_ret
          have hfin := (HFI.out nn os)
          rw [str_row] at hfin
          refine ⟨some ⟨g, 0, none⟩, ss.length, cap, (ss.mergeSort fun x y => decide (x ≤ y)).map fun x => (⟨x.toArray⟩ : Nm), rfl, by simp, by omega, (arow_vl (by simpa using hfin)).2, fun x => ?_, fun b9 o9 e9 => ?_, ?_⟩
          · rw [List.mem_map]
            constructor
            · rintro ⟨y, hy, rfl⟩
              rw [List.mem_mergeSort, HCE.out] at hy
              exact (HS.out _).1 (by simpa using hy)
            · intro hx
              refine ⟨x.data.toList, ?_, by simp⟩
              rw [List.mem_mergeSort, HCE.out]
              exact (HS.out x).2 hx
          · injection e9 with e9
            injection e9 with e9
            subst e9
            exact Nat.le_trans HB5.out.size HBS.out
          · exact step_b HB5.out (HNX.out.grown (grownBy_sorted _) HNX.out.size (fun j hj => by cases hj; exact HBS.out))
        · intro x c2 kl yd yp w8 cnt2 hkey hlk hv hat hrg2 hlt2 hg2 hs2 hen
          obtain ⟨x', ex, rfl, _⟩ := Maps.keyOf_str Try.underlying9 hkey
          obtain rfl : x = x' := encStr_inj ex
          have hrow2 := hrow.kept hg2 (Or.inr (row_ne_iter hrow hrg).symm)
          have HC2 := hd (HC.out.step hlk hat)
          have hnx := HNX.out
          have HLF := hd hrg.left_eq
          have HLT := hd hlt2
          clear hs2 hkey hlk hv hat ex
          go_wp2_with (first
            | (at_builtin; refine wpList_append_own _ rfl _ _ 77 rfl w5.heap.size 9 i0 _ 1 16 Try.underlying77 hi hz0 hz1 hz2 rfl (by decide) _ _ _ rfl (hrow2.alloc _) ⟨w8.heap.size, 0, none⟩ 1 1 [encStr x] rfl rfl (cell_one_new _ _ _) (by simp [Value.oneCell', encStr]) (by unfold maxLen at *; omega) (by omega) (by have := hnx.size; have := hg2.size; simp; omega) ?_; intro v' w9 hown' hg3 hnil3; go_frame))
          have hrg3 := (hrg2.alloc _).kept hg3 (row_ne_low hrow2 hbl) (row_ne_iter hrow2 hrg2)
          have hb9 := ((hnx.grown hg2 hnx.size (fun j hj => by cases hj; exact hs6)).alloc (by have := hnx.size; have := hg2.size; omega) _).grown hg3 (by have := hnx.size; have := hg2.size; simp; omega) (fun j hj => (hrow2.lt j hj).1)
          go_roundw
          case rel => exact ⟨_, cnt2, ss ++ [x], hrg3, by simp; omega, by simpa using hown', fun hv' => by have := (hnil3.1 hv').2; omega, HC2, hd hb9⟩
          case measure => rw [hrg3.left_eq, HLF.out]; exact HLT.out

end Go.Proofs.Ytegaapeaeffgoaa

namespace Go.Proofs.Ytegaapeaeffgoaa
open Go.RowKit

def leafC : NC := ⟨true, none, 0, 0, none, 0, 0, none, 0, 0⟩
def voidC : NC := ⟨false, none, 0, 0, none, 0, 0, none, 0, 0⟩
def elC (g : Nat) : NC := ⟨false, some ⟨g, 0, none⟩, 1, 1, none, 0, 0, none, 0, 0⟩
set_option maxRecDepth 4000 in
theorem type_none : typeT false [] = noN := by kernel_rfl
set_option maxRecDepth 4000 in
theorem type_one (k : Nm) : typeT false [(tyKey, k)] = k := by
  unfold typeT getV getF
  simp
set_option maxRecDepth 4000 in
theorem leafC_at (w : World) : QAt w leafC none := ⟨rfl, [], rfl, by show (0 : Nat) ≤ _; omega, PL.nil _ _ _, fun k h => by cases h⟩
set_option maxRecDepth 4000 in
theorem voidC_at (w : World) : QAt w voidC (some noN) := ⟨rfl, [], rfl, by show (0 : Nat) ≤ _; omega, PL.nil _ _ _, fun k h => (Option.some.inj h) ▸ type_none⟩
set_option maxRecDepth 4000 in
theorem elC_at {w : World} {g : Nat} {k : Nm} (h : PL w w.heap.size (some ⟨g, 0, none⟩) [(tyKey, k)]) : QAt w (elC g) (some k) := ⟨rfl, [(tyKey, k)], rfl, by show (1 : Nat) ≤ _; omega, h, fun q h => by injection h with h; subst h; exact type_one _⟩
set_option maxRecDepth 4000 in
set_option maxHeartbeats 1000000 in
theorem leaf_c (w : World) : Calls Try.prog 64 #[] w (Still (.agg leafC.row) w) := by
  go_enter Try.func64, Try.ntmps64
  go_wp2
  refine bodyPost_ret (v := .agg leafC.row) (by simp [results, Try.results64, go_sem, leafC, NC.row]) rfl ⟨rfl, ?_⟩
  exact (Below.refl _ _).alloc (Nat.le_refl _) _
set_option maxRecDepth 4000 in
set_option maxHeartbeats 1000000 in
theorem elem_none (w : World) : Calls Try.prog 65 #[.string ⟨#[]⟩] w (Still (.agg voidC.row) w) := by
  go_enter Try.func65, Try.ntmps65
  go_wp2
  refine bodyPost_ret (v := .agg voidC.row) (by simp [results, Try.results65, go_sem, voidC, NC.row]) rfl ⟨rfl, ?_⟩
  exact (Below.refl _ _).alloc (Nat.le_refl _) _
/-- An element told, of a type. -/
def NewEl (w : World) (k : Nm) (e : Ending) (w' : World) : Prop := ∃ g, e = .returned (.agg (elC g).row) ∧ PL w' w'.heap.size (some ⟨g, 0, none⟩) [(tyKey, k)] ∧ w.heap.size ≤ g ∧ Below w.heap.size w w'
set_option maxRecDepth 4000 in
set_option maxHeartbeats 2000000 in
theorem elem_some {k : Nm} (hk : k ≠ noN) (w : World) : Calls Try.prog 65 #[.string k] w (NewEl w k) := by
  have h0 : k.toList ≠ [] := fun h => hk (nm_inj (by rw [h, noN_list]))
  have h1 : k.toList.isEmpty = false := by cases h : k.toList with
    | nil => exact absurd h h0
    | cons => rfl
  clear hk
  go_enter Try.func65, Try.ntmps65
  go_wp2
  refine bodyPost_ret (v := .agg (elC (w.heap.size + 1)).row) (by simp [results, Try.results65, go_sem, elC, NC.row]) rfl ⟨w.heap.size + 1, rfl, ?_, by omega, ?_⟩
  · intro _
    refine ⟨w.heap.size + 1, 0, rfl, by simp, fun j hj => ?_⟩
    obtain rfl : j = 0 := by simp at hj; omega
    constructor <;> (rw [World.cell?_alloc_at _ _ _ _ (by simp)]; rfl)
  · exact ((Below.refl _ _).alloc (Nat.le_refl _) _).alloc (by simp) _

def cellsN (cs : List NC) : List Value := flatF (fun c : NC => c.row.toList) cs
set_option maxRecDepth 4000 in
theorem NC.len (c : NC) : c.row.toList.length = 4 := rfl
set_option maxRecDepth 4000 in
theorem cellsN_len (l : List NC) : (cellsN l).length = l.length * 4 := flatF_len NC.len l
set_option maxRecDepth 4000 in
theorem cellsN_all (l : List NC) : ∀ u ∈ cellsN l, u.oneCell' = true := flatF_one1 NC.one l
set_option maxRecDepth 4000 in
theorem cellsN_app (a b : List NC) : cellsN (a ++ b) = cellsN a ++ cellsN b := by simp [cellsN, flatF]
set_option maxRecDepth 4000 in
theorem fill_node (vs : List NC) (n : Nat) (hn : vs.length = n) (i0 : TypeInfo) (hz1 : i0.size = 4) (ps : List (Nat × Value)) (hps : ps = ((vs.map fun c => Value.agg c.row).zipIdx 0).map fun x => (x.2, x.1)) : Instr.fill (fun i => some (i * i0.size, i0.size)) ((Array.range (n * i0.size)).map ((Value.agg voidC.row).cells[· % (Value.agg voidC.row).cells.size]!)) ps = some (cellsN vs).toArray := by
  rw [hz1, hps]
  have h := Great.fill_whole (s := 4) (by omega) (vs.map fun c => Value.agg c.row) ((Array.range (n * 4)).map ((Value.agg voidC.row).cells[· % (Value.agg voidC.row).cells.size]!)) (by
    intro v hv
    obtain ⟨c, _, rfl⟩ := List.mem_map.1 hv
    rfl) (by simp [hn])
  refine h.trans ?_
  congr 2
  unfold cellsN flatF
  rw [List.flatMap_map]
  rfl
set_option maxRecDepth 4000 in
theorem nodeInfo2 : (Try.prog.info? 41).map (fun i => (i.zero, i.size, i.bytes)) = some (some (.agg voidC.row), 4, 80) := by kernel_rfl
set_option maxRecDepth 4000 in
theorem run_build_n1 (W : World) (c : NC) : (Instr.buildSlice 39 1 #[(0, .agg c.row)]).run Try.prog W = .ok (.slice (some ⟨W.heap.size, 0, none⟩) 1 1) (W.alloc (.cells (cellsN [c]).toArray 41)) := by
  obtain ⟨i0, hi, hz0, hz1, hz2⟩ := info_parts nodeInfo2
  exact run_buildSlice (P := Try.prog) W 39 41 1 #[(0, .agg c.row)] _ i0 _ Try.underlying39 hi hz0 (by rw [hz1]; decide) (by rw [hz1]; decide) (fill_node [c] 1 rfl i0 hz1 _ rfl)
set_option maxRecDepth 4000 in
theorem run_build_n2 (W : World) (c d : NC) : (Instr.buildSlice 39 2 #[(0, .agg c.row), (1, .agg d.row)]).run Try.prog W = .ok (.slice (some ⟨W.heap.size, 0, none⟩) 2 2) (W.alloc (.cells (cellsN [c, d]).toArray 41)) := by
  obtain ⟨i0, hi, hz0, hz1, hz2⟩ := info_parts nodeInfo2
  exact run_buildSlice (P := Try.prog) W 39 41 2 #[(0, .agg c.row), (1, .agg d.row)] _ i0 _ Try.underlying39 hi hz0 (by rw [hz1]; decide) (by rw [hz1]; decide) (fill_node [c, d] 2 rfl i0 hz1 _ rfl)
set_option maxRecDepth 4000 in
theorem wpList_build_n1 {ops : Array Oper} {rest : List Oper} {o : Oper} {a : Act} {Q : Exit → Act → World → Prop} {W : World} {c : NC} (x : Operand) (ho : o.op = .buildSlice 39 1 #[(0, x)]) (hgd : o.guard = none) (hx : a.eval x = .agg c.row)
    (hk : wpList Try.prog ops Q rest (a.put o.dst (.slice (some ⟨W.heap.size, 0, none⟩) 1 1)) (W.alloc (.cells (cellsN [c]).toArray 41))) : wpList Try.prog ops Q (o :: rest) a W := by
  refine wpList_plain hgd fun K hK => ?_
  unfold Oper.wp execOp
  simp only [ho, List.map_toArray, List.map_cons, List.map_nil, hx, Sem.run_bind, run_build_n1, Result.andThen_ok]
  exact hK _ _ hk
set_option maxRecDepth 4000 in
theorem wpList_build_n2 {ops : Array Oper} {rest : List Oper} {o : Oper} {a : Act} {Q : Exit → Act → World → Prop} {W : World} {c d : NC} (x y : Operand) (ho : o.op = .buildSlice 39 2 #[(0, x), (1, y)]) (hgd : o.guard = none) (hx : a.eval x = .agg c.row) (hy : a.eval y = .agg d.row)
    (hk : wpList Try.prog ops Q rest (a.put o.dst (.slice (some ⟨W.heap.size, 0, none⟩) 2 2)) (W.alloc (.cells (cellsN [c, d]).toArray 41))) : wpList Try.prog ops Q (o :: rest) a W := by
  refine wpList_plain hgd fun K hK => ?_
  unfold Oper.wp execOp
  simp only [ho, List.map_toArray, List.map_cons, List.map_nil, hx, hy, Sem.run_bind, run_build_n2, Result.andThen_ok]
  exact hK _ _ hk
set_option maxRecDepth 4000 in
theorem vl_new (W : World) (xs : List Value) (t : TypeId) : VL (W.alloc (.cells xs.toArray t)) (W.alloc (.cells xs.toArray t)).heap.size (some ⟨W.heap.size, 0, none⟩) xs := fun _ =>
  ⟨W.heap.size, 0, rfl, by simp, fun k u hk => by
    rw [Nat.zero_add, World.cell?_alloc_at _ _ _ _ rfl]
    simpa using hk⟩

set_option maxRecDepth 4000 in
/-- A row grows: another block stays. -/
theorem clear_grown {W W' : World} {own own' : Option Nat} (hg : W.grownBy W' own) (hat : own' = own ∨ ∃ g, own' = some g ∧ W.heap.size ≤ g) {b : Nat} (hb : b < W.heap.size) (hne : own ≠ some b) : W'.heap[b]? = W.heap[b]? ∧ b < W'.heap.size ∧ own' ≠ some b := by
  refine ⟨hg.block b hb (fun e => hne e.symm), Nat.lt_of_lt_of_le hb hg.size, fun e => ?_⟩
  rcases hat with h | ⟨g, h, h2⟩
  · exact hne (h ▸ e)
  · rw [h] at e
    injection e with e
    omega
/-- cs hold the nodes qs, in no row that is own. -/
def QsAt (own : Option Nat) (W : World) (cs : List NC) (qs : List (Option Nm)) : Prop := cs.length = qs.length ∧ ∀ (k : Nat) (c : NC) (q : Option Nm), cs[k]? = some c → qs[k]? = some q → QAt W c q ∧ ∀ b o, c.P = some ⟨b, o, none⟩ → b < W.heap.size ∧ own ≠ some b
set_option maxRecDepth 4000 in
theorem qat_grown {W W' : World} {own own' : Option Nat} {c : NC} {q : Option Nm} (h : QAt W c q ∧ ∀ b o, c.P = some ⟨b, o, none⟩ → b < W.heap.size ∧ own ≠ some b) (hg : W.grownBy W' own) (hat : own' = own ∨ ∃ g, own' = some g ∧ W.heap.size ≤ g) : QAt W' c q ∧ ∀ b o, c.P = some ⟨b, o, none⟩ → b < W'.heap.size ∧ own' ≠ some b := by
  obtain ⟨h1, h2⟩ := h
  refine ⟨⟨h1.lf, ?_⟩, fun b o e => (clear_grown hg hat (h2 b o e).1 (h2 b o e).2).2⟩
  obtain ⟨ps, e1, e2, e3, e4⟩ := h1.ps
  refine ⟨ps, e1, e2, fun hn => ?_, e4⟩
  obtain ⟨b, o, ea, hb, hc⟩ := e3 hn
  have hk := clear_grown hg hat (h2 b o ea).1 (h2 b o ea).2
  exact ⟨b, o, ea, hk.2.1, fun k hkl => ⟨(World.cell?_of_block hk.1).trans (hc k hkl).1, (World.cell?_of_block hk.1).trans (hc k hkl).2⟩⟩
set_option maxRecDepth 4000 in
theorem QsAt.grown {W W' : World} {own own' : Option Nat} {cs : List NC} {qs : List (Option Nm)} (h : QsAt own W cs qs) (hg : W.grownBy W' own) (hat : own' = own ∨ ∃ g, own' = some g ∧ W.heap.size ≤ g) : QsAt own' W' cs qs :=
  ⟨h.1, fun k c q h1 h2 => qat_grown (h.2 k c q h1 h2) hg hat⟩
set_option maxRecDepth 4000 in
theorem QsAt.later {W W' : World} {own : Option Nat} {cs : List NC} {qs : List (Option Nm)} (h : QsAt own W cs qs) (hb : Below W.heap.size W W') : QsAt own W' cs qs :=
  ⟨h.1, fun k c q h1 h2 => ⟨(h.2 k c q h1 h2).1.later hb, fun b o e => ⟨Nat.lt_of_lt_of_le ((h.2 k c q h1 h2).2 b o e).1 hb.size, ((h.2 k c q h1 h2).2 b o e).2⟩⟩⟩
set_option maxRecDepth 4000 in
theorem QsAt.more {W : World} {own : Option Nat} {cs : List NC} {qs : List (Option Nm)} {c : NC} {q : Option Nm} (h : QsAt own W cs qs) (hq : QAt W c q ∧ ∀ b o, c.P = some ⟨b, o, none⟩ → b < W.heap.size ∧ own ≠ some b) : QsAt own W (cs ++ [c]) (qs ++ [q]) :=
  ⟨by simp [h.1], fun k x a h1 h2 => by
    rcases Nat.lt_or_ge k qs.length with hk | hk
    · rw [List.getElem?_append_left (by rw [h.1]; exact hk)] at h1
      rw [List.getElem?_append_left hk] at h2
      exact h.2 k x a h1 h2
    · rw [List.getElem?_append_right (by rw [h.1]; exact hk)] at h1
      rw [List.getElem?_append_right hk] at h2
      rw [h.1] at h1
      cases hj : k - qs.length with
      | zero =>
        rw [hj] at h1 h2
        simp at h1 h2
        subst h1 h2
        exact hq
      | succ j => rw [hj] at h1; simp at h1⟩

end Go.Proofs.Ytegaapeaeffgoaa
