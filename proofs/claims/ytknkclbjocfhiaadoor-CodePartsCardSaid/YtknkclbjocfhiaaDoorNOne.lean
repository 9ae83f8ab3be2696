/- What is wrong with one node, whatever its Kids are. -/
import Derived.Test.YtknkclbjocfhiaaDoorNType
namespace Go.Proofs.YtknkclbjocfhiaaDoor
open Go.RowKit

theorem oneE_prop {lf : Bool} {ps : List Pr} {tx : List Int} {nk : Nat} (h : chk ps ≠ 0) : oneE lf ps tx nk = chk ps := by unfold oneE; rw [if_pos h]
set_option maxRecDepth 4000 in
theorem oneE_leaf {lf : Bool} {ps : List Pr} {tx : List Int} {nk : Nat} (h : chk ps = 0) (h1 : lf = true ∧ 0 < nk ∨ lf = false ∧ 0 < tx.length) : oneE lf ps tx nk = 7 := by
  unfold oneE; rw [if_neg (by simp [h]), if_pos]
  rcases h1 with ⟨rfl, h1⟩ | ⟨rfl, h1⟩ <;> simp [h1]
set_option maxRecDepth 4000 in
theorem oneE_text {lf : Bool} {ps : List Pr} {tx : List Int} {nk : Nat} (h : chk ps = 0) (h1 : lf = true ∧ nk = 0 ∨ lf = false ∧ tx.length = 0) : oneE lf ps tx nk = chkL tx := by
  unfold oneE; rw [if_neg (by simp [h]), if_neg]
  rcases h1 with ⟨rfl, h1⟩ | ⟨rfl, h1⟩ <;> simp [h1]

set_option maxRecDepth 4000 in
set_option maxHeartbeats 2000000 in
theorem one_any (lf : Bool) (ps : List Pr) (tx : List Int) (PA TA KA : Option Addr) (pc tc nk kc : Nat) (w : World) (hf : FitN ps tx.length nk pc tc kc) (hp : PL w w.heap.size PA ps) (ht : VL w w.heap.size TA (rv tx)) :
    Calls Tryd.prog 38 #[.agg #[.bool lf, .slice PA ps.length pc, .slice TA tx.length tc, .slice KA nk kc]] w (Still (.int .i64 (oneE lf ps tx nk)) w) := by
  have hb1 : Below w.heap.size w (w.alloc (.cells #[.bool lf, .slice PA ps.length pc, .slice TA tx.length tc, .slice KA nk kc] 26)) := (Below.refl _ _).alloc (Nat.le_refl _) _
  have HC := hd (pcheck_any PA ps pc _ hf.1 ((hp.below hb1).more hb1.size))
  have HD := fun (w' : World) (hb : Below w.heap.size w w') => hd (check_any TA tx tx.length tc w' rfl (by have := hf.2.2.1; omega) ((ht.below hb).more hb.size))
  obtain ⟨_, _, f2, f3⟩ := hf
  clear hp ht
  obtain ⟨E, hE⟩ : ∃ E, E = chk ps := ⟨_, rfl⟩
  rw [← hE] at HC
  rcases Classical.em (E = 0) with h0 | h0
  · subst h0
    have g1 : (decide ((0 : Int) < (nk : Int)) = true ∧ 0 < nk) ∨ (decide ((0 : Int) < (nk : Int)) = false ∧ nk = 0) := by
      rcases Nat.eq_zero_or_pos nk with h | h
      · exact .inr ⟨by simp; omega, h⟩
      · exact .inl ⟨by simp; omega, h⟩
    have g2 : (decide ((0 : Int) < (tx.length : Int)) = true ∧ 0 < tx.length) ∨ (decide ((0 : Int) < (tx.length : Int)) = false ∧ tx.length = 0) := by
      rcases Nat.eq_zero_or_pos tx.length with h | h
      · exact .inr ⟨by rw [decide_eq_false_iff_not]; omega, h⟩
      · exact .inl ⟨by rw [decide_eq_true_iff]; omega, h⟩
    cases lf
    · rcases g2 with ⟨g2, h2⟩ | ⟨g2, h2⟩
      · have HF := hd (oneE_leaf (lf := false) (nk := nk) hE.symm (.inr ⟨rfl, h2⟩))
        clear hE g1
        go_enter Tryd.func38, Tryd.ntmps38
        go_wp2_with (go_at_call 61; refine HC.out.mono ?_; rintro e w' ⟨rfl, hb⟩; obtain ⟨x0, x1, x2, x3⟩ := box4 hb)
        go_ret
        exact ⟨ret_int HF.out.symm, hb1.trans (hb.mono hb1.size)⟩
      · have HF := hd (oneE_text (lf := false) (nk := nk) hE.symm (.inr ⟨rfl, h2⟩))
        have z2 : ¬ 0 < tx.length := by omega
        clear hE g1 h2
        go_enter Tryd.func38, Tryd.ntmps38
        go_wp2_with (first | (go_at_call 61; refine HC.out.mono ?_; rintro e w' ⟨rfl, hb⟩; obtain ⟨x0, x1, x2, x3⟩ := box4 hb) | (go_at_call 43; refine (HD _ (hb1.trans (hb.mono hb1.size))).out.mono ?_; rintro e w'' ⟨rfl, rfl⟩))
        go_ret
        exact ⟨ret_int HF.out.symm, hb1.trans (hb.mono hb1.size)⟩
    · rcases g1 with ⟨g1, h1⟩ | ⟨g1, h1⟩
      · have HF := hd (oneE_leaf (lf := true) (tx := tx) hE.symm (.inl ⟨rfl, h1⟩))
        clear hE g2
        go_enter Tryd.func38, Tryd.ntmps38
        go_wp2_with (go_at_call 61; refine HC.out.mono ?_; rintro e w' ⟨rfl, hb⟩; obtain ⟨x0, x1, x2, x3⟩ := box4 hb)
        go_ret
        exact ⟨ret_int HF.out.symm, hb1.trans (hb.mono hb1.size)⟩
      · have HF := hd (oneE_text (lf := true) (tx := tx) hE.symm (.inl ⟨rfl, h1⟩))
        have z1 : ¬ 0 < nk := by omega
        clear hE g2 h1
        go_enter Tryd.func38, Tryd.ntmps38
        go_wp2_with (first | (go_at_call 61; refine HC.out.mono ?_; rintro e w' ⟨rfl, hb⟩; obtain ⟨x0, x1, x2, x3⟩ := box4 hb) | (go_at_call 43; refine (HD _ (hb1.trans (hb.mono hb1.size))).out.mono ?_; rintro e w'' ⟨rfl, rfl⟩))
        go_ret
        exact ⟨ret_int HF.out.symm, hb1.trans (hb.mono hb1.size)⟩
  · have HF := hd (show oneE lf ps tx nk = E by rw [hE]; exact oneE_prop (by rw [← hE]; exact h0))
    have h1 : (E != 0) = true := by simp [h0]
    have h2 : (E == 0) = false := by simp [h0]
    clear hE h0
    go_enter Tryd.func38, Tryd.ntmps38
    go_wp2_with (go_at_call 61; refine HC.out.mono ?_; rintro e w' ⟨rfl, hb⟩; obtain ⟨x0, x1, x2, x3⟩ := box4 hb)
    go_ret
    exact ⟨ret_int HF.out.symm, hb1.trans (hb.mono hb1.size)⟩

end Go.Proofs.YtknkclbjocfhiaaDoor
