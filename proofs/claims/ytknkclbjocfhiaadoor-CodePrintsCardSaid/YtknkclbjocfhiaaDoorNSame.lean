/- Same, by a closure that calls itself, and the document's. -/
import Derived.Test.YtknkclbjocfhiaaDoorNQuiet
namespace Go.Proofs.YtknkclbjocfhiaaDoor
open Go.RowKit

/-- Are two nodes the same, whatever their Kids are? -/
def sameO (lf : Bool) (ps : List Pr) (tx : List Int) (nk : Nat) (lf' : Bool) (ps' : List Pr) (tx' : List Int) (nk' : Nat) : Bool := decide (lf = lf' ∧ nk = nk' ∧ ps = ps' ∧ tx = tx')
set_option maxRecDepth 4000 in
theorem sameO_no {lf : Bool} {ps : List Pr} {tx : List Int} {nk : Nat} {lf' : Bool} {ps' : List Pr} {tx' : List Int} {nk' : Nat} (h : ¬ (lf = lf' ∧ nk = nk' ∧ ps = ps' ∧ tx = tx')) : sameO lf ps tx nk lf' ps' tx' nk' = false := decide_eq_false h
set_option maxRecDepth 4000 in
theorem sameO_yes {lf : Bool} {ps : List Pr} {tx : List Int} {nk : Nat} : sameO lf ps tx nk lf ps tx nk = true := decide_eq_true ⟨rfl, rfl, rfl, rfl⟩

set_option maxRecDepth 4000 in
/-- Two nodes in variables of the call's own, behind a call that leaves them. -/
theorem box8 {w w' : World} {a b c d a' b' c' d' : Value} {t t' : TypeId} (hb : Below ((w.alloc (.cells #[a, b, c, d] t)).alloc (.cells #[a', b', c', d'] t')).heap.size ((w.alloc (.cells #[a, b, c, d] t)).alloc (.cells #[a', b', c', d'] t')) w') :
    (w'.cell? ⟨w.heap.size, 0, none⟩ = some a ∧ w'.cell? ⟨w.heap.size, 1, none⟩ = some b ∧ w'.cell? ⟨w.heap.size, 2, none⟩ = some c ∧ w'.cell? ⟨w.heap.size, 3, none⟩ = some d) ∧
    (w'.cell? ⟨w.heap.size + 1, 0, none⟩ = some a' ∧ w'.cell? ⟨w.heap.size + 1, 1, none⟩ = some b' ∧ w'.cell? ⟨w.heap.size + 1, 2, none⟩ = some c' ∧ w'.cell? ⟨w.heap.size + 1, 3, none⟩ = some d') ∧ w.heap.size + 1 < w'.heap.size := by
  refine ⟨⟨?_, ?_, ?_, ?_⟩, ⟨?_, ?_, ?_, ?_⟩, by have := hb.size; simp at this; omega⟩
  all_goals first
    | (rw [hb.cell (by simp; omega), World.cell?_alloc_lt _ _ _ (by simp), World.cell?_alloc_at _ _ _ _ rfl]; rfl)
    | (rw [hb.cell (by simp), World.cell?_alloc_at _ _ _ _ (by simp)]; rfl)

set_option maxRecDepth 4000 in
set_option maxHeartbeats 4000000 in
theorem sameOne_any (lf : Bool) (ps : List Pr) (tx : List Int) (lf' : Bool) (ps' : List Pr) (tx' : List Int) (PA TA KA PA' TA' KA' : Option Addr) (pc tc nk kc pc' tc' nk' kc' : Nat) (w : World) (hf : FitN ps tx.length nk pc tc kc) (hf' : FitN ps' tx'.length nk' pc' tc' kc') (hp : PL w w.heap.size PA ps) (ht : VL w w.heap.size TA (rv tx)) (hp' : PL w w.heap.size PA' ps') (ht' : VL w w.heap.size TA' (rv tx')) :
    Calls Tryd.prog 34 #[.agg #[.bool lf, .slice PA ps.length pc, .slice TA tx.length tc, .slice KA nk kc], .agg #[.bool lf', .slice PA' ps'.length pc', .slice TA' tx'.length tc', .slice KA' nk' kc']] w (Still (.bool (sameO lf ps tx nk lf' ps' tx' nk')) w) := by
  have hb1 : Below w.heap.size w ((w.alloc (.cells #[.bool lf, .slice PA ps.length pc, .slice TA tx.length tc, .slice KA nk kc] 26)).alloc (.cells #[.bool lf', .slice PA' ps'.length pc', .slice TA' tx'.length tc', .slice KA' nk' kc'] 26)) := ((Below.refl _ _).alloc (Nat.le_refl _) _).alloc (by simp) _
  have HB := hd hb1
  rcases Classical.em (lf = lf') with h1 | h1
  · subst h1
    rcases Classical.em (nk = nk') with h2 | h2
    · subst h2
      have HC := hd (psame_any PA PA' ps ps' pc pc' _ (by have := hf.2.1; omega) (by have := hf'.2.1; omega) ((hp.below hb1).more hb1.size) ((hp'.below hb1).more hb1.size))
      rcases Classical.em (ps = ps') with h3 | h3
      · subst h3
        rw [decide_eq_true rfl] at HC
        have HD := fun (w' : World) (hb : Below w.heap.size w w') => hd (same_any TA TA' tx tx' tx.length tx'.length tc tc' (sameO lf ps tx nk lf ps tx' nk) (by unfold sameL sameO; simp) w' rfl rfl (by have := hf.2.2.1; omega) (by have := hf'.2.2.1; omega) ((ht.below hb).more hb.size) ((ht'.below hb).more hb.size))
        clear hf hf' hp ht hp' ht' hb1
        cases lf <;>
        · go_enter Tryd.func34, Tryd.ntmps34
          go_wp2_with (first
            | (go_at_call 57; refine HC.out.mono ?_; rintro e w' ⟨rfl, hb⟩; obtain ⟨⟨x0, x1, x2, x3⟩, ⟨y0, y1, y2, y3⟩, hlt⟩ := box8 hb)
            | (go_at_call 58; refine (HD _ (HB.out.trans (hb.mono HB.out.size))).out.mono ?_; rintro e w'' ⟨rfl, kd, rfl⟩))
          go_ret
          exact ⟨rfl, below_drewN (HB.out.trans (hb.mono HB.out.size)) _⟩
      · rw [decide_eq_false h3] at HC
        have HF := hd (sameO_no (lf := lf) (ps := ps) (tx := tx) (nk := nk) (lf' := lf) (ps' := ps') (tx' := tx') (nk' := nk) (fun h => h3 h.2.2.1))
        clear hf hf' hp ht hp' ht' hb1 h3
        cases lf <;>
        · go_enter Tryd.func34, Tryd.ntmps34
          go_wp2_with (first
            | (go_at_call 57; refine HC.out.mono ?_; rintro e w' ⟨rfl, hb⟩; obtain ⟨⟨x0, x1, x2, x3⟩, ⟨y0, y1, y2, y3⟩, hlt⟩ := box8 hb))
          go_ret
          exact ⟨ret_bool HF.out.symm, HB.out.trans (hb.mono HB.out.size)⟩
    · have HF := hd (sameO_no (lf := lf) (ps := ps) (tx := tx) (nk := nk) (lf' := lf) (ps' := ps') (tx' := tx') (nk' := nk') (fun h => h2 h.2.1))
      have z1 : ((nk : Int) == (nk' : Int)) = false := by simp; omega
      have z2 : ((nk : Int) != (nk' : Int)) = true := by simp; omega
      clear hf hf' hp ht hp' ht' hb1 h2
      cases lf <;>
      · go_enter Tryd.func34, Tryd.ntmps34
        go_wp2
        go_ret
        exact ⟨ret_bool HF.out.symm, HB.out⟩
  · have HF := hd (sameO_no (lf := lf) (ps := ps) (tx := tx) (nk := nk) (lf' := lf') (ps' := ps') (tx' := tx') (nk' := nk') (fun h => h1 h.1))
    clear hf hf' hp ht hp' ht' hb1
    cases lf <;> cases lf' <;> first
    | exact absurd rfl h1
    | (go_enter Tryd.func34, Tryd.ntmps34
       go_wp2
       go_ret
       exact ⟨ret_bool HF.out.symm, HB.out⟩)

set_option maxRecDepth 4000 in
/-- The Kids from k on are the same. -/
theorem eqT_one {lf : Bool} {ps : List Pr} {tx : List Int} {ks : List NT} {lf' : Bool} {ps' : List Pr} {tx' : List Int} {ks' : List NT} (h : sameO lf ps tx ks.length lf' ps' tx' ks'.length = false) : eqT (.mk lf ps tx ks) (.mk lf' ps' tx' ks') = false := by
  apply eqT_no
  intro e
  injection e with e1 e2 e3 e4
  subst e1 e2 e3 e4
  rw [sameO_yes] at h
  cases h
set_option maxRecDepth 4000 in
theorem eqT_kid {lf : Bool} {ps : List Pr} {tx : List Int} {ks : List NT} {lf' : Bool} {ps' : List Pr} {tx' : List Int} {ks' : List NT} {k : Nat} {m m' : NT} (h : ks[k]? = some m) (h' : ks'[k]? = some m') (hn : eqT m m' = false) : eqT (.mk lf ps tx ks) (.mk lf' ps' tx' ks') = false := by
  apply eqT_no
  intro e
  injection e with e1 e2 e3 e4
  subst e4
  rw [h] at h'
  injection h' with h'
  subst h'
  rw [eqT_self] at hn
  cases hn
set_option maxRecDepth 4000 in
theorem eqT_true {a b : NT} (h : eqT a b = true) : a = b := by
  rcases Classical.em (a = b) with h1 | h1
  · exact h1
  · rw [eqT_no h1] at h; cases h
set_option maxRecDepth 4000 in
theorem eqT_all {lf : Bool} {ps : List Pr} {tx : List Int} {ks : List NT} {lf' : Bool} {ps' : List Pr} {tx' : List Int} {ks' : List NT} (h : sameO lf ps tx ks.length lf' ps' tx' ks'.length = true) (ha : ∀ j, j < ks.length → ks[j]? = ks'[j]?) : eqT (.mk lf ps tx ks) (.mk lf' ps' tx' ks') = true := by
  have h1 := of_decide_eq_true h
  obtain ⟨rfl, hl, rfl, rfl⟩ := h1
  apply eqT_yes
  congr 1
  apply List.ext_getElem?
  intro i
  by_cases hi : i < ks.length
  · exact ha i hi
  · rw [List.getElem?_eq_none (by omega), List.getElem?_eq_none (by omega)]

end Go.Proofs.YtknkclbjocfhiaaDoor
