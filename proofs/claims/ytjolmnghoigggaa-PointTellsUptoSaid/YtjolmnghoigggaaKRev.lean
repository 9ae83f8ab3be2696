/- A list turned round in place (slices.Reverse); what is told of a point whose path was told the other way round (told). -/
import Derived.Test.YtjolmnghoigggaaKUnder
namespace Go.Proofs.Ytjolmnghoigggaa
open Go.RowKit

/-- The list with the first k and the last k numbers changed for one another. -/
def revTo (l : List Int) : Nat → List Int
  | 0 => l
  | k + 1 => ((revTo l k).set k (iAt (revTo l k) (l.length - 1 - k))).set (l.length - 1 - k) (iAt (revTo l k) k)
set_option maxRecDepth 4000 in
theorem revTo_length (l : List Int) : ∀ k, (revTo l k).length = l.length
  | 0 => rfl
  | k + 1 => by rw [revTo, List.length_set, List.length_set, revTo_length l k]
set_option maxRecDepth 4000 in
theorem iAt_set (l : List Int) (k j : Nat) (v : Int) (_hk : k < l.length) (hj : j < l.length) : iAt (l.set k v) j = if j = k then v else iAt l j := by
  rw [iAt_eq _ j (by simpa using hj), List.getElem_set]
  by_cases h : k = j
  · rw [if_pos h, if_pos h.symm]
  · rw [if_neg h, if_neg (fun e => h e.symm), iAt_eq l j hj]
set_option maxRecDepth 4000 in
theorem revTo_at (l : List Int) : ∀ (k j : Nat), 2 * k ≤ l.length → j < l.length → iAt (revTo l k) j = if j < k ∨ l.length - 1 - j < k then iAt l (l.length - 1 - j) else iAt l j
  | 0, j, _, hj => by rw [revTo, if_neg (by omega)]
  | k + 1, j, hk, hj => by
    have hl := revTo_length l k
    obtain ⟨m, hm⟩ : ∃ m, m = l.length - 1 - k := ⟨_, rfl⟩
    have h1 := revTo_at l k
    have g1 : iAt (revTo l k) k = iAt l k := by rw [h1 k (by omega) (by omega), if_neg (by omega)]
    have g2 : iAt (revTo l k) m = iAt l m := by rw [h1 m (by omega) (by omega), if_neg (by omega)]
    rw [revTo, ← hm, g1, g2, iAt_set _ _ _ _ (by rw [List.length_set]; omega) (by rw [List.length_set]; omega), iAt_set _ _ _ _ (by omega) (by omega)]
    by_cases e1 : j = m
    · rw [if_pos e1, if_pos (by omega), show l.length - 1 - j = k by omega]
    · rw [if_neg e1]
      by_cases e2 : j = k
      · rw [if_pos e2, if_pos (by omega), show l.length - 1 - j = m by omega]
      · rw [if_neg e2, h1 j (by omega) hj]
        by_cases h : j < k ∨ l.length - 1 - j < k
        · rw [if_pos h, if_pos (by omega)]
        · rw [if_neg h, if_neg (by omega)]
set_option maxRecDepth 4000 in
theorem revTo_all (l : List Int) (k : Nat) (hk : 2 * k ≤ l.length) (h : l.length ≤ 2 * k + 1) : revTo l k = l.reverse := by
  refine List.ext_getElem (by rw [revTo_length, List.length_reverse]) fun j h1 h2 => ?_
  rw [revTo_length] at h1
  have h3 := revTo_at l k j hk h1
  rw [iAt_eq _ j (by rw [revTo_length]; exact h1)] at h3
  rw [h3, List.getElem_reverse]
  by_cases h4 : j < k ∨ l.length - 1 - j < k
  · rw [if_pos h4, iAt_eq _ _ (by omega)]
  · rw [if_neg h4, iAt_eq _ _ h1]
    congr 1; omega

set_option maxRecDepth 4000 in
theorem OwnI.two {w : World} {b : Nat} {v : Value} {l : List Int} (h : OwnI w b v l) (hl : 0 < l.length) : ∃ g c, v = .slice (some ⟨g, 0, none⟩) l.length c ∧ l.length ≤ c ∧ b ≤ g ∧ g < w.heap.size ∧ (∀ k, k < l.length → w.cell? ⟨g, k, none⟩ = some (.int .i64 (iAt l k))) ∧ (∀ k, w.frozen? ⟨g, k, none⟩ = false) ∧
    ∀ k u k' u', OwnI ((w.setCell ⟨g, k, none⟩ (.int .i64 u)).setCell ⟨g, k', none⟩ (.int .i64 u')) b v ((l.set k u).set k' u') := by
  obtain ⟨g, c, e, h1, _, h3, h4, h5, h6, h7⟩ := h.form hl
  refine ⟨g, c, e, h1, h3, h4, h5, h6, fun k u k' u' => ?_⟩
  obtain ⟨g', c', e', _, _, _, _, _, _, h8⟩ := (h7 k u).form (by simpa using hl)
  rw [e] at e'
  injection e' with a1 a2 a3
  injection a1 with a1
  injection a1 with a1
  subst a1
  exact h8 k' u'

set_option maxRecDepth 4000 in
theorem Below.other {B : Nat} {w w' : World} (h : Below B w w') {g k : Nat} (hg : B ≤ g) (x : Value) : Below B w (w'.setCell ⟨g, k, none⟩ x) := h.setCell hg x

set_option maxRecDepth 4000 in
set_option maxHeartbeats 2000000 in
theorem reverse_any (B : Nat) (A : Option Addr) (l : List Int) (n c : Nat) (w : World) (hn : l.length = n) (hl : n ≤ 100000000) (hO : OwnI w B (.slice A n c) l) (_hB : B ≤ w.heap.size) :
    Calls Try.prog 62 #[.slice A n c] w (fun e w' => e = .returned (.tuple #[]) ∧ OwnI w' B (.slice A n c) l.reverse ∧ Below B w w' ∧ w'.heap.size = w.heap.size ∧ ∀ g, (Value.slice A n c).ownBlock ≠ some g → w'.heap[g]? = w.heap[g]?) := by
  subst hn
  have HO := hd hO
  have HA := hd (revTo_all l)
  clear hO
  go_enter Try.func62, Try.ntmps62
  go_wp2
  go_loopw [2, 3] (fun i j wr => ∃ k : Nat, 2 * k ≤ l.length ∧ i = .int .i64 k ∧ j = .int .i64 ((l.length : Int) - 1 - k) ∧ OwnI wr B (.slice A l.length c) (revTo l k) ∧ Below B w wr ∧ wr.heap.size = w.heap.size ∧ ∀ g, (Value.slice A l.length c).ownBlock ≠ some g → wr.heap[g]? = w.heap[g]?) (fun i _ _ => l.length - (intOf i).toNat)
  case atStart => exact ⟨0, by omega, rfl, by simp, HO.out, Below.refl _ _, rfl, fun _ _ => rfl⟩
  case round =>
    obtain ⟨k, hk, rfl, rfl, ho, hb, hs, hg⟩ := hrel
    have hrl := revTo_length l k
    by_cases hlt : 2 * k + 1 < l.length
    · obtain ⟨j, hj⟩ : ∃ j : Nat, j = l.length - 1 - k := ⟨_, rfl⟩
      have hjI : (l.length : Int) - 1 - k = (j : Int) := by omega
      have hkj : k < j := by omega
      have hjl : j < l.length := by omega
      rw [hjI]
      obtain ⟨g, c', e, h1, h2, h3, h4, h5, h6⟩ := ho.two (by omega)
      injection e with e1 _ e3
      subst e1 e3
      rw [hrl] at h1 h4
      obtain ⟨X, hX⟩ : ∃ X, X = iAt (revTo l k) k := ⟨_, rfl⟩
      obtain ⟨Y, hY⟩ : ∃ Y, Y = iAt (revTo l k) j := ⟨_, rfl⟩
      have y1 := h4 k (by omega)
      have y2 := h4 j (by omega)
      rw [← hX] at y1
      rw [← hY] at y2
      have f1 := h5 k
      have f2 := h5 j
      have HO2 := hd (h6 k Y j X)
      have HR := hd (show revTo l (k + 1) = ((revTo l k).set k Y).set j X by rw [revTo, ← hj, ← hX, ← hY])
      have HB := hd hb
      have HS := hd hs
      have HG := hd hg
      have HJ := hd hj
      have HJI := hd hjI
      clear h4 h5 h6 hjI hj hb hs hg ho hX hY hrl
      go_wp2
      go_region
      go_wp2
      go_roundw
      case rel => exact ⟨k + 1, by have := HJ.out; omega, by go_num, by have := HJI.out; refine congrArg (Value.int .i64) ?_; push_cast; omega, HR.out ▸ HO2.out, (show Below B w ((wr.setCell ⟨g, k, none⟩ (.int .i64 Y)).setCell ⟨g, j, none⟩ (.int .i64 X)) from (HB.out.setCell (by exact h2) _).setCell (by exact h2) _).drew, by rw [← HS.out]; simp, fun g' hg' => by
        have hne : g' ≠ g := fun e => hg' (by rw [e]; rfl)
        show ((wr.setCell _ _).setCell _ _).heap[g']? = _
        rw [Below.heap_setCell _ _ _ _ hne, Below.heap_setCell _ _ _ _ hne]; exact HG.out g' hg'⟩
      case measure => simp [intOf]; omega
    · have HE := hd (HA.out k hk (by omega))
      obtain ⟨J, hJ⟩ : ∃ J : Int, J = (l.length : Int) - 1 - k := ⟨_, rfl⟩
      rw [← hJ]
      have hge : ¬ (k : Int) < J := by omega
      have hge2 : decide ((k : Int) < J) = false := decide_eq_false (by omega)
      have HO1 := hd ho
      have HB := hd hb
      have HS := hd hs
      have HG := hd hg
      clear hJ hrl hlt hk ho hb hs hg
      go_wp2
      refine bodyPost_end (v := .tuple #[]) (by simp [results, Try.results62, go_sem]) rfl ?_
      exact ⟨rfl, HE.out ▸ HO1.out, HB.out, HS.out, HG.out⟩

end Go.Proofs.Ytjolmnghoigggaa
