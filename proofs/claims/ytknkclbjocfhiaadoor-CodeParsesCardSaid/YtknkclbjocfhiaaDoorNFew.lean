/- What Few tells of a tree in which nothing is wrong: it is small. -/
import Derived.Test.YtknkclbjocfhiaaDoorNSameLaw
namespace Go.Proofs.YtknkclbjocfhiaaDoor
open Go.RowKit

mutual
/-- No node has more than a slice may hold. -/
def FitT : NT → Prop
  | .mk _ ps tx ks => ps.length ≤ 4398046511104 ∧ tx.length ≤ 35184372088832 ∧ FitK ks
def FitK : List NT → Prop
  | [] => True
  | k :: r => FitT k ∧ FitK r
end
set_option maxRecDepth 4000 in
theorem fitK_of : ∀ {l : List NT}, (∀ (k : Nat) (m : NT), l[k]? = some m → FitT m) → FitK l
  | [], _ => trivial
  | x :: _, h => ⟨h 0 x rfl, fitK_of fun k m hm => h (k + 1) m hm⟩
set_option maxRecDepth 4000 in
theorem NodeAt.fit {w : World} {B : Nat} : ∀ {d : Nat} {v : Value} {n : NT}, NodeAt d w B v n → FitT n
  | 0, _, _, h => h.elim
  | d + 1, _, .mk lf ps tx ks, ⟨PA, pc, TA, tc, KA, kc, e, hp, ht, hf, hks⟩ => ⟨hf.2.1, hf.2.2.1, fitK_of fun k m hm => by
      obtain ⟨b, o, u, e1, hb, hn, hc⟩ := hks k m hm
      exact hn.fit⟩

set_option maxRecDepth 4000 in
theorem firstE_zero {l : List Pr} (h : firstE l = 0) : ∀ j, j < l.length → stepE l j = 0 := by
  intro j hj
  unfold firstE at h
  cases hf : ((List.range l.length).map (stepE l)).find? (· != 0) with
  | none =>
    have := List.find?_eq_none.1 hf (stepE l j) (List.mem_map.2 ⟨j, List.mem_range.2 hj, rfl⟩)
    simpa using this
  | some x =>
    rw [hf] at h
    have := List.find?_some hf
    simp only [Option.getD_some] at h
    subst h
    simp at this
set_option maxRecDepth 4000 in
theorem chk_small {l : List Pr} (h : chk l = 0) : ∀ p ∈ l, bigP p = 0 := by
  intro p hp
  unfold chk at h
  split at h
  · cases h
  · obtain ⟨j, hj, rfl⟩ := List.mem_iff_getElem.1 hp
    have h1 := firstE_zero h j hj
    unfold stepE at h1
    rw [prAt_eq l j hj] at h1
    split at h1
    · cases h1
    · rename_i h2
      have h3 : keyB l[j].1 = true ∧ valB l[j].2 = true := by
        cases ha : keyB l[j].1 <;> cases hb : valB l[j].2 <;> simp [ha, hb] at h2 ⊢
      obtain ⟨h4, h5⟩ := h3
      unfold keyB at h4
      unfold valB at h5
      simp only [Bool.and_eq_true, decide_eq_true_iff] at h4 h5
      unfold bigP
      omega
set_option maxRecDepth 4000 in
theorem propsW_small : ∀ (l : List Pr) (m : Int), In64 m → (∀ p ∈ l, bigP p = 0) → propsW m l = m
  | [], _, _, _ => rfl
  | p :: r, m, hm, h => by
    have h0 := h p (List.mem_cons_self ..)
    show propsW (wrap64 (m - bigP p)) r = m
    rw [h0, Int.sub_zero, wrap_id m hm.1 hm.2]
    exact propsW_small r m hm fun q hq => h q (List.mem_cons_of_mem _ hq)

set_option maxRecDepth 4000 in
theorem oneE_zero {lf : Bool} {ps : List Pr} {tx : List Int} {nk : Nat} (h : oneE lf ps tx nk = 0) : chk ps = 0 := by
  rcases Classical.em (chk ps = 0) with h1 | h1
  · exact h1
  · rw [oneE_prop h1] at h; exact h
set_option maxRecDepth 4000 in
theorem chkT_zero {lf : Bool} {ps : List Pr} {tx : List Int} {ks : List NT} (h : chkT (.mk lf ps tx ks) = 0) : oneE lf ps tx ks.length = 0 ∧ chkK ks = 0 := by
  rw [chkT] at h
  split at h
  · rename_i h1; exact absurd h h1
  · rename_i h1; exact ⟨by simpa using h1, h⟩
set_option maxRecDepth 4000 in
theorem chkK_zero {k : NT} {r : List NT} (h : chkK (k :: r) = 0) : chkT k = 0 ∧ chkK r = 0 := by
  rw [chkK] at h
  split at h
  · rename_i h1; exact absurd h h1
  · rename_i h1; exact ⟨by simpa using h1, h⟩
set_option maxRecDepth 4000 in
mutual
theorem left_small : ∀ (n : NT) (m : Int), FitT n → chkT n = 0 → 0 ≤ m → m ≤ 200 → 0 ≤ leftT m n → leftT m n ≤ m - sizeT n
  | .mk lf ps tx ks, m, hf, hc, h0, h1, hl => by
    obtain ⟨f1, f2, f3⟩ := hf
    obtain ⟨c1, c2⟩ := chkT_zero hc
    have hw : wrap64 (m - (1 + tx.length + ps.length)) = m - (1 + tx.length + ps.length) := wrap_id _ (by omega) (by omega)
    have hp : propsW (m - (1 + tx.length + ps.length)) ps = m - (1 + tx.length + ps.length) := propsW_small _ _ ⟨by omega, by omega⟩ (chk_small (oneE_zero c1))
    rw [leftT, hw, hp] at hl ⊢
    split at hl
    · omega
    · rename_i hn
      rw [if_neg hn]
      have := leftK_small ks _ f3 c2 (by omega) (by omega) hl
      simp only [sizeT]
      omega
theorem leftK_small : ∀ (l : List NT) (m : Int), FitK l → chkK l = 0 → 0 ≤ m → m ≤ 200 → 0 ≤ leftK m l → leftK m l ≤ m - sizeK l
  | [], m, _, _, _, _, _ => by simp [leftK, sizeK]
  | k :: r, m, hf, hc, h0, h1, hl => by
    obtain ⟨c1, c2⟩ := chkK_zero hc
    rw [leftK] at hl ⊢
    split at hl
    · omega
    · rename_i hn
      rw [if_neg hn]
      have a1 := left_small k m hf.1 c1 h0 h1 (by omega)
      have a2 := sizeT_pos k
      have a3 := leftK_small r _ hf.2 c2 (by omega) (by omega) hl
      simp only [sizeK]
      omega
end

theorem checkT_zero {n : NT} (h : checkT n = 0) : chkT n = 0 := by
  unfold checkT at h; split at h
  · cases h
  · exact h
set_option maxRecDepth 4000 in
theorem checkT_small {n : NT} (h : sizeT n ≤ 1048576) : checkT n = chkT n := by
  unfold checkT; rw [if_neg]; rw [wrap_id] <;> omega
set_option maxRecDepth 4000 in
theorem chkK_all {ks : List NT} (h : chkK ks = 0) : ∀ m ∈ ks, chkT m = 0 := by
  induction ks with
  | nil => intro m hm; cases hm
  | cons k r ih =>
    intro m hm
    obtain ⟨c1, c2⟩ := chkK_zero h
    rcases List.mem_cons.1 hm with rfl | hm
    · exact c1
    · exact ih c2 m hm
set_option maxRecDepth 4000 in
theorem chkK_of {ks : List NT} (h : ∀ m ∈ ks, chkT m = 0) : chkK ks = 0 := by
  induction ks with
  | nil => rfl
  | cons k r ih =>
    rw [chkK, if_neg (by simp [h k (List.mem_cons_self ..)])]
    exact ih fun m hm => h m (List.mem_cons_of_mem _ hm)
set_option maxRecDepth 4000 in
theorem size_le_K {ks : List NT} {m : NT} (h : m ∈ ks) : sizeT m ≤ sizeK ks := by
  obtain ⟨k, hk, rfl⟩ := List.mem_iff_getElem.1 h
  exact sizeK_mem (List.getElem?_eq_getElem hk)
set_option maxRecDepth 4000 in
/-- A small tree may be just if its own parts, and each of its Kids may be. -/
theorem parts_eq {lf : Bool} {ps : List Pr} {tx : List Int} {ks : List NT} (hf : FitT (.mk lf ps tx ks)) (hs : fewB 200 (.mk lf ps tx ks) = true) :
    (checkT (.mk lf ps tx ks) == 0) = ((oneE lf ps tx ks.length == 0) && ks.all fun m => checkT m == 0) := by
  rcases Classical.em (chkT (.mk lf ps tx ks) = 0) with h | h
  · obtain ⟨c1, c2⟩ := chkT_zero h
    have hl := left_small _ 200 hf h (by omega) (by omega) (of_decide_eq_true hs)
    have hl2 := of_decide_eq_true hs
    have hsz : sizeT (.mk lf ps tx ks) ≤ 200 := by omega
    have hk : sizeK ks ≤ 200 := by simp only [sizeT] at hsz; omega
    have e1 : (ks.all fun m => checkT m == 0) = true := by
      rw [List.all_eq_true]
      intro m hm
      rw [checkT_small (by have := size_le_K hm; omega), chkK_all c2 m hm]; rfl
    rw [checkT_small (by omega), h, c1, e1]; rfl
  · have e0 : (checkT (.mk lf ps tx ks) == 0) = false := by
      rw [beq_eq_false_iff_ne]; intro e; exact h (checkT_zero e)
    rw [e0]
    symm
    rw [Bool.and_eq_false_iff]
    rcases Classical.em (oneE lf ps tx ks.length = 0) with h1 | h1
    · right
      cases ha : ks.all fun m => checkT m == 0
      · rfl
      · exfalso
        apply h
        rw [chkT, if_neg (by simp [h1])]
        apply chkK_of
        intro m hm
        exact checkT_zero (by have := List.all_eq_true.1 ha m hm; simpa using this)
    · left; rw [beq_eq_false_iff_ne]; exact h1

end Go.Proofs.YtknkclbjocfhiaaDoor
