/- What is written is read, what is read was written so: over plain lists. -/
import Derived.Test.YtknkclbjocfhiaaDoorCText
namespace Go.Proofs.YtknkclbjocfhiaaDoor
open Go.RowKit

/-! How far reading goes. -/

theorem chk_prefix {a b : List Pr} (h : chk (a ++ b) = 0) : chk a = 0 := by
  unfold chk at h ⊢
  split at h
  · cases h
  · rename_i h1
    rw [List.length_append] at h1
    rw [if_neg (by omega)]
    refine firstE_none a fun j hj => ?_
    have h2 := firstE_zero h j (by rw [List.length_append]; omega)
    unfold stepE at h2 ⊢
    have e1 : prAt (a ++ b) j = prAt a j := by unfold prAt; simp [List.getD, List.getElem?_append_left hj]
    have e2 : prAt (a ++ b) (j - 1) = prAt a (j - 1) := by unfold prAt; simp [List.getD, List.getElem?_append_left (show j - 1 < a.length by omega)]
    rw [e1, e2] at h2
    exact h2
set_option maxRecDepth 4000 in
theorem chk_len {a : List Pr} (h : chk a = 0) : a.length ≤ 16 := by
  unfold chk at h; split at h
  · cases h
  · omega
set_option maxRecDepth 4000 in
theorem keyB_parts {k : ByteArray} (h : keyB k = true) : 1 ≤ k.size ∧ k.size ≤ 16 ∧ k.data.toList.all isLet = true := by
  unfold keyB at h; simp only [Bool.and_eq_true, decide_eq_true_iff] at h; exact ⟨h.1.1, h.1.2, h.2⟩
set_option maxRecDepth 4000 in
theorem valB_parts {k : ByteArray} (h : valB k = true) : k.size ≤ 32 ∧ k.data.toList.all isVal = true := by
  unfold valB at h; simp only [Bool.and_eq_true, decide_eq_true_iff] at h; exact h
set_option maxRecDepth 4000 in
theorem chk_last {a : List Pr} {p : Pr} (h : chk (a ++ [p]) = 0) : keyB p.1 = true ∧ valB p.2 = true := by
  unfold chk at h
  split at h
  · cases h
  · have h2 := firstE_zero h a.length (by simp)
    unfold stepE at h2
    have e1 : prAt (a ++ [p]) a.length = p := by unfold prAt; simp [List.getD]
    rw [e1] at h2
    split at h2
    · cases h2
    · rename_i h3
      cases ha : keyB p.1 <;> cases hb : valB p.2 <;> simp [ha, hb] at h3 ⊢

set_option maxRecDepth 4000 in
theorem propP_ok {s : List UInt8} {ps : List Pr} {i : Nat} {p : Pr} {m : Nat} (h : propP s ps i = .ok p m) : i < endL isLet s i ∧ s[endL isLet s i]? = some 58 ∧ m = endL isVal s (endL isLet s i + 1) ∧ p = prOf s i ∧ chk (ps ++ [p]) = 0 ∧ i + 1 < m ∧ m ≤ s.length := by
  unfold propP at h
  split at h
  · cases h
  · rename_i h1
    split at h
    · cases h
    · rename_i h2
      split at h
      · cases h
      · rename_i h3
        injection h with h4 h5
        subst h4 h5
        have e1 := endL_ge isLet s i
        have e2 := endL_ge isVal s (endL isLet s i + 1)
        have h2' : s[endL isLet s i]? = some 58 := by simpa using h2
        have e3 := at_lt h2'
        exact ⟨by omega, h2', rfl, rfl, by simpa using h3, by omega, endL_le (by omega)⟩
set_option maxRecDepth 4000 in
theorem propP_bad {s : List UInt8} {ps : List Pr} {i : Nat} {p : Nat} {e : Int} (hi : i ≤ s.length) (h : propP s ps i = .bad p e) : p ≤ s.length ∧ e ≠ 0 := by
  unfold propP at h
  split at h
  · injection h with h1 h2; subst h1 h2; exact ⟨hi, by decide⟩
  · split at h
    · injection h with h1 h2; subst h1 h2; exact ⟨endL_le hi, by decide⟩
    · split at h
      · rename_i h3
        injection h with h1 h2; subst h1 h2; exact ⟨hi, h3⟩
      · cases h
set_option maxRecDepth 4000 in
theorem propsP_step {s : List UInt8} {ps : List Pr} {i : Nat} {p : Pr} {m : Nat} (h : propP s ps i = .ok p m) : propsP s ps i = if s[m]? = some 125 then .ok (ps ++ [p]) (m + 1) else if s[m]? = some 44 then propsP s (ps ++ [p]) (m + 1) else .bad m 11 := by
  rw [propsP, h]
  have := propP_ok h
  simp only
  split
  · rfl
  · by_cases h44 : s[m]? = some 44
    · rw [dif_pos ⟨h44, by omega⟩, if_pos h44]
    · rw [dif_neg (fun hh => h44 hh.1), if_neg h44]
set_option maxRecDepth 4000 in
theorem propsP_bad {s : List UInt8} {ps : List Pr} {i : Nat} {p : Nat} {e : Int} (h : propP s ps i = .bad p e) : propsP s ps i = .bad p e := by rw [propsP, h]

set_option maxRecDepth 4000 in
theorem propsP_range (k : Nat) : ∀ (s : List UInt8) (ps : List Pr) (i : Nat), s.length - i ≤ k → i ≤ s.length →
    (∀ l j, propsP s ps i = .ok l j → i < j ∧ j ≤ s.length ∧ chk l = 0 ∧ l ≠ []) ∧ (∀ p e, propsP s ps i = .bad p e → p ≤ s.length ∧ e ≠ 0) := by
  induction k with
  | zero =>
    intro s ps i hk hi
    cases h : propP s ps i with
    | bad p e =>
      rw [propsP_bad h]
      exact ⟨fun l j hh => (nomatch hh), fun p' e' hh => by injection hh with h1 h2; subst h1 h2; exact propP_bad hi h⟩
    | ok p m => have := propP_ok h; omega
  | succ k ih =>
    intro s ps i hk hi
    cases h : propP s ps i with
    | bad p e =>
      rw [propsP_bad h]
      exact ⟨fun l j hh => (nomatch hh), fun p' e' hh => by injection hh with h1 h2; subst h1 h2; exact propP_bad hi h⟩
    | ok p m =>
      have hp := propP_ok h
      rw [propsP_step h]
      by_cases h1 : s[m]? = some 125
      · rw [if_pos h1]
        have := at_lt h1
        refine ⟨fun l j hh => ?_, fun p' e' hh => (nomatch hh)⟩
        injection hh with h2 h3
        subst h2 h3
        exact ⟨by omega, by omega, hp.2.2.2.2.1, by simp⟩
      · rw [if_neg h1]
        by_cases h2 : s[m]? = some 44
        · rw [if_pos h2]
          have := at_lt h2
          obtain ⟨a, b⟩ := ih s (ps ++ [p]) (m + 1) (by omega) (by omega)
          exact ⟨fun l j hh => by have := a l j hh; exact ⟨by omega, this.2⟩, b⟩
        · rw [if_neg h2]
          refine ⟨fun l j hh => (nomatch hh), fun p' e' hh => ?_⟩
          injection hh with h3 h4
          subst h3 h4
          exact ⟨hp.2.2.2.2.2.2, by decide⟩
set_option maxRecDepth 4000 in
theorem headP_range {s : List UInt8} {i : Nat} (hi : i ≤ s.length) : (∀ l j, headP s i = .ok l j → i ≤ j ∧ j ≤ s.length ∧ chk l = 0) ∧ (∀ p e, headP s i = .bad p e → p ≤ s.length ∧ e ≠ 0) := by
  unfold headP
  split
  · rename_i h
    have := at_lt h
    obtain ⟨a, b⟩ := propsP_range _ s [] (i + 1) (Nat.le_refl _) (by omega)
    exact ⟨fun l j hh => by have := a l j hh; exact ⟨by omega, by omega, this.2.2.1⟩, b⟩
  · refine ⟨fun l j hh => ?_, fun p e hh => (nomatch hh)⟩
    injection hh with h1 h2
    subst h1 h2
    exact ⟨by omega, hi, rfl⟩
set_option maxRecDepth 4000 in
theorem qEnd_range {s : List UInt8} {j : Nat} (h : s[j]? = some 34) : j < qEnd s j ∧ qEnd s j ≤ s.length := by
  unfold qEnd
  have h1 := at_lt h
  have h2 := endL_ge (fun b => b != 34) s (j + 1)
  omega
set_option maxRecDepth 4000 in
theorem unqS_range {s : List UInt8} {j : Nat} (h : s[j]? = some 34) : (unqS s j).2.2 ≠ 0 → 0 ≤ (unqS s j).2.1 ∧ j + (unqS s j).2.1.toNat ≤ s.length := by
  intro he
  have h1 := qEnd_range h
  have h2 := unqL_err (cutS s j (qEnd s j)) (unqS s j).1 (unqS s j).2.1 (unqS s j).2.2 rfl he
  rw [cutS_len _ _ _ h1.2] at h2
  omega
set_option maxRecDepth 4000 in
theorem bodyP_range {s : List UInt8} {ps : List Pr} {j : Nat} (hj : j ≤ s.length) : (∀ n m, bodyP s ps j = .ok n m → j < m ∧ m ≤ s.length ∧ n.ps = ps ∧ n.ks = []) ∧ (∀ p e, bodyP s ps j = .bad p e → p ≤ s.length ∧ e ≠ 0) := by
  unfold bodyP
  split
  · rename_i h
    have := at_lt h
    refine ⟨fun n m hh => ?_, fun p e hh => (nomatch hh)⟩
    injection hh with h1 h2
    subst h1 h2
    exact ⟨by omega, by omega, rfl, rfl⟩
  · split
    · rename_i h
      have h1 := qEnd_range h
      have h2 := unqS_range h
      split
      · rename_i h3
        refine ⟨fun n m hh => (nomatch hh), fun p e hh => ?_⟩
        injection hh with h4 h5
        subst h4 h5
        exact ⟨(h2 h3).2, h3⟩
      · refine ⟨fun n m hh => ?_, fun p e hh => (nomatch hh)⟩
        injection hh with h4 h5
        subst h4 h5
        exact ⟨h1.1, h1.2, rfl, rfl⟩
    · refine ⟨fun n m hh => (nomatch hh), fun p e hh => ?_⟩
      injection hh with h4 h5
      subst h4 h5
      exact ⟨hj, by decide⟩
set_option maxRecDepth 4000 in
theorem beginP_range {s : List UInt8} {i : Nat} (hi : i ≤ s.length) : (∀ n j, beginP s i = .ok n j → i < j ∧ j ≤ s.length ∧ chk n.ps = 0 ∧ n.ks = []) ∧ (∀ p e, beginP s i = .bad p e → p ≤ s.length ∧ e ≠ 0) := by
  unfold beginP
  obtain ⟨a, b⟩ := headP_range hi
  cases h : headP s i with
  | bad p e => exact ⟨fun n j hh => (nomatch hh), fun p' e' hh => by injection hh with h1 h2; subst h1 h2; exact b p e h⟩
  | ok ps j =>
    have ha := a ps j h
    obtain ⟨c, d⟩ := bodyP_range (ps := ps) ha.2.1
    exact ⟨fun n m hh => by have := c n m hh; exact ⟨by omega, by omega, by rw [this.2.2.1]; exact ha.2.2, this.2.2.2⟩, d⟩

set_option maxRecDepth 4000 in
/-- Reading goes on, and stays within the text. -/
theorem node_range (k : Nat) : ∀ (s : List UInt8) (i : Nat), s.length - i < k → i ≤ s.length →
    (∀ n j, nodeW s i = .ok n j → i < j ∧ j ≤ s.length) ∧ (∀ p e, nodeW s i = .bad p e → p ≤ s.length ∧ e ≠ 0) ∧
    (∀ u n j, kidsW s u i = .ok n j → i < j ∧ j ≤ s.length) ∧ (∀ u p e, kidsW s u i = .bad p e → p ≤ s.length ∧ e ≠ 0) := by
  induction k with
  | zero => intro s i h; omega
  | succ k ih =>
    intro s i hk hi
    obtain ⟨b1, b2⟩ := beginP_range hi
    have hN : (∀ n j, nodeW s i = .ok n j → i < j ∧ j ≤ s.length) ∧ (∀ p e, nodeW s i = .bad p e → p ≤ s.length ∧ e ≠ 0) := by
      rw [nodeW]
      cases hb : beginP s i with
      | bad p e => exact ⟨fun n j hh => (nomatch hh), fun p' e' hh => by injection hh with h1 h2; subst h1 h2; exact b2 p e hb⟩
      | ok n j =>
        have hr := b1 n j hb
        simp only
        split
        · refine ⟨fun n' j' hh => ?_, fun p e hh => (nomatch hh)⟩
          injection hh with h1 h2
          subst h1 h2
          exact ⟨hr.1, hr.2.1⟩
        · rw [dif_pos ⟨hr.1, hr.2.1⟩]
          obtain ⟨_, _, c, d⟩ := ih s j (by omega) hr.2.1
          exact ⟨fun n' j' hh => by have := c n n' j' hh; omega, d n⟩
    refine ⟨hN.1, hN.2, fun u n j hh => ?_, fun u p e hh => ?_⟩
    · rw [kidsW] at hh
      split at hh
      · rename_i h93
        have := at_lt h93
        injection hh with h1 h2
        omega
      · cases hn : nodeW s i with
        | bad p e => rw [hn] at hh; cases hh
        | ok k' j' =>
          have hr := hN.1 k' j' hn
          rw [hn] at hh
          simp only at hh
          rw [dif_pos ⟨hr.1, hr.2⟩] at hh
          have := (ih s j' (by omega) hr.2).2.2.1 _ n j hh
          omega
    · rw [kidsW] at hh
      split at hh
      · cases hh
      · cases hn : nodeW s i with
        | bad p' e' =>
          rw [hn] at hh
          injection hh with h1 h2
          subst h1 h2
          exact hN.2 p' e' hn
        | ok k' j' =>
          have hr := hN.1 k' j' hn
          rw [hn] at hh
          simp only at hh
          rw [dif_pos ⟨hr.1, hr.2⟩] at hh
          exact (ih s j' (by omega) hr.2).2.2.2 _ p e hh
set_option maxRecDepth 4000 in
theorem node_ok {s : List UInt8} {i j : Nat} {n : NT} (hi : i ≤ s.length) (h : nodeW s i = .ok n j) : i < j ∧ j ≤ s.length := (node_range _ s i (Nat.lt_succ_self _) hi).1 n j h
set_option maxRecDepth 4000 in
theorem node_bad {s : List UInt8} {i p : Nat} {e : Int} (hi : i ≤ s.length) (h : nodeW s i = .bad p e) : p ≤ s.length ∧ e ≠ 0 := (node_range _ s i (Nat.lt_succ_self _) hi).2.1 p e h
set_option maxRecDepth 4000 in
theorem kids_ok {s : List UInt8} {i j : Nat} {u n : NT} (hi : i ≤ s.length) (h : kidsW s u i = .ok n j) : i < j ∧ j ≤ s.length := (node_range _ s i (Nat.lt_succ_self _) hi).2.2.1 u n j h
set_option maxRecDepth 4000 in
theorem kids_bad {s : List UInt8} {i p : Nat} {u : NT} {e : Int} (hi : i ≤ s.length) (h : kidsW s u i = .bad p e) : p ≤ s.length ∧ e ≠ 0 := (node_range _ s i (Nat.lt_succ_self _) hi).2.2.2 u p e h

set_option maxRecDepth 4000 in
/-- The rules without the bounds. -/
theorem nodeW_bad {s : List UInt8} {i p : Nat} {e : Int} (h : beginP s i = .bad p e) : nodeW s i = .bad p e := by rw [nodeW, h]
set_option maxRecDepth 4000 in
theorem nodeW_leaf {s : List UInt8} {i j : Nat} {n : NT} (h : beginP s i = .ok n j) (hl : n.lf = true) : nodeW s i = .ok n j := by
  rw [nodeW, h]; simp only; rw [if_pos hl]
set_option maxRecDepth 4000 in
theorem nodeW_elem {s : List UInt8} {i j : Nat} {n : NT} (hi : i ≤ s.length) (h : beginP s i = .ok n j) (hl : n.lf = false) : nodeW s i = kidsW s n j := by
  have hr := (beginP_range hi).1 n j h
  rw [nodeW, h]; simp only; rw [if_neg (by simp [hl]), dif_pos ⟨hr.1, hr.2.1⟩]
set_option maxRecDepth 4000 in
theorem kidsW_end {s : List UInt8} {u : NT} {j : Nat} (h : s[j]? = some 93) : kidsW s u j = .ok u (j + 1) := by rw [kidsW, if_pos h]
set_option maxRecDepth 4000 in
theorem kidsW_bad {s : List UInt8} {u : NT} {j p : Nat} {e : Int} (h : s[j]? ≠ some 93) (hn : nodeW s j = .bad p e) : kidsW s u j = .bad p e := by rw [kidsW, if_neg h, hn]
set_option maxRecDepth 4000 in
theorem kidsW_step {s : List UInt8} {u k : NT} {j j' : Nat} (hj : j ≤ s.length) (h : s[j]? ≠ some 93) (hn : nodeW s j = .ok k j') : kidsW s u j = kidsW s (addK u k) j' := by
  have hr := node_ok hj hn
  rw [kidsW, if_neg h, hn]; simp only; rw [dif_pos hr]
set_option maxRecDepth 4000 in
theorem wrapW_kids {s : List UInt8} {u : NT} {st : List NT} {j : Nat} (hj : j ≤ s.length) (h : s[j]? ≠ some 93) : wrapW s st (kidsW s u j) = wrapW s (u :: st) (nodeW s j) := by
  cases hn : nodeW s j with
  | bad p e => rw [kidsW_bad h hn, wrapW_bad, wrapW_bad]
  | ok k j' => rw [kidsW_step hj h hn]; rfl

/-! What is written is read. -/

theorem isLet58 : isLet 58 = false := by decide
set_option maxRecDepth 4000 in
theorem isVal_stop {c : UInt8} (h : c = 44 ∨ c = 125) : isVal c = false := by rcases h with rfl | rfl <;> decide
set_option maxRecDepth 4000 in
theorem leT_pos (ps : List Pr) (p : Pr) : prT 123 (p :: ps) ++ [125] = 123 :: (p.1.data.toList ++ 58 :: (p.2.data.toList ++ (prT 44 ps ++ [125]))) := by simp [prT]
set_option maxRecDepth 4000 in
theorem propsP_write : ∀ (r : List Pr) (s : List UInt8) (ps : List Pr) (p : Pr) (rest : List UInt8) (i : Nat), chk (ps ++ p :: r) = 0 → s.drop i = p.1.data.toList ++ 58 :: (p.2.data.toList ++ (prT 44 r ++ 125 :: rest)) →
    propsP s ps i = .ok (ps ++ p :: r) (i + (p.1.data.toList ++ 58 :: (p.2.data.toList ++ (prT 44 r ++ [125]))).length)
  | r, s, ps, p, rest, i, hc, hs => by
    have hc1 : chk (ps ++ [p]) = 0 := by
      have e : ps ++ p :: r = (ps ++ [p]) ++ r := by simp
      rw [e] at hc; exact chk_prefix hc
    obtain ⟨hk, hv⟩ := chk_last hc1
    obtain ⟨k1, k2, k3⟩ := keyB_parts hk
    obtain ⟨v1, v2⟩ := valB_parts hv
    have lk : p.1.data.toList.length = p.1.size := data_size _
    have lv : p.2.data.toList.length = p.2.size := data_size _
    have e1 : endL isLet s i = i + p.1.data.toList.length := endL_run hs k3 (fun c hcc => by simp at hcc; rw [← hcc]; exact isLet58)
    have d1 := drop_more hs
    obtain ⟨a1, d2⟩ := dropC d1
    have hnx : ∀ c, (prT 44 r ++ 125 :: rest)[0]? = some c → isVal c = false := by
      intro c hcc
      cases r with
      | nil => simp [prT] at hcc; exact isVal_stop (.inr hcc.symm)
      | cons q r => simp [prT] at hcc; exact isVal_stop (.inl hcc.symm)
    have e2 : endL isVal s (i + p.1.data.toList.length + 1) = i + p.1.data.toList.length + 1 + p.2.data.toList.length := endL_run d2 v2 hnx
    have d3 := drop_more d2
    have c1 : cutS s i (i + p.1.data.toList.length) = p.1.data.toList := cutS_of hs
    have c2 : cutS s (i + p.1.data.toList.length + 1) (i + p.1.data.toList.length + 1 + p.2.data.toList.length) = p.2.data.toList := cutS_of d2
    have ep : prOf s i = p := by unfold prOf; rw [e1, e2, c1, c2, mkB_of, mkB_of]
    have hP : propP s ps i = .ok p (i + p.1.data.toList.length + 1 + p.2.data.toList.length) := by
      unfold propP
      rw [ep, e1, e2, if_neg (by omega), if_neg (by rw [a1]; simp), if_neg (by rw [hc1]; simp)]
    rw [propsP_step hP]
    cases r with
    | nil =>
      simp only [prT, List.nil_append] at d3
      rw [if_pos (dropC d3).1]
      congr 1
      simp [prT]; omega
    | cons q r =>
      simp only [prT, List.cons_append, List.append_assoc] at d3
      obtain ⟨a3, d4⟩ := dropC d3
      rw [if_neg (by rw [a3]; decide), if_pos a3]
      have := propsP_write r s (ps ++ [p]) q rest (i + p.1.data.toList.length + 1 + p.2.data.toList.length + 1) (by simpa using hc) d4
      rw [this]
      congr 1
      · simp
      · simp [prT]; omega
set_option maxRecDepth 4000 in
theorem headP_write (s : List UInt8) (ps : List Pr) (rest : List UInt8) (i : Nat) (hc : chk ps = 0) (hr : ∀ c, rest[0]? = some c → c ≠ 123) (hs : s.drop i = propsT ps ++ rest) : headP s i = .ok ps (i + (propsT ps).length) := by
  unfold headP
  cases ps with
  | nil =>
    rw [propsT, List.nil_append] at hs
    rw [if_neg (fun h => by rw [at_drop, hs] at h; exact hr 123 h rfl)]
    rfl
  | cons p r =>
    have e : propsT (p :: r) ++ rest = 123 :: (p.1.data.toList ++ 58 :: (p.2.data.toList ++ (prT 44 r ++ 125 :: rest))) := by simp [propsT, prT]
    rw [e] at hs
    obtain ⟨a1, d1⟩ := dropC hs
    rw [if_pos a1, propsP_write r s [] p rest (i + 1) (by simpa using hc) d1]
    congr 1
    simp [propsT, prT]; omega
set_option maxRecDepth 4000 in
theorem bodyL_all {l : List Int} (h : okR l = true) : (bodyL l).all (fun b => b != 34) = true := by
  rw [List.all_eq_true]
  intro b hb
  obtain ⟨c, hc, hbc⟩ := List.mem_flatMap.1 hb
  have hr : isR c = true := List.all_eq_true.1 h c hc
  unfold escL at hbc
  split at hbc
  · rename_i hp
    have hpp := (isP_iff c).1 hp
    rw [List.mem_singleton] at hbc
    subst hbc
    rw [bne_iff_ne]
    intro e
    have := congrArg UInt8.toNat e
    simp at this
    omega
  · rw [bne_iff_ne]
    rintro rfl
    rcases List.mem_cons.1 hbc with h1 | h1
    · cases h1
    · rcases List.mem_append.1 h1 with h2 | h2
      · have := (hexL_spec c.toNat).1 34 h2
        simp [isH] at this
      · rw [List.mem_singleton] at h2; cases h2
set_option maxRecDepth 4000 in
theorem qEnd_write {s : List UInt8} {tx : List Int} {rest : List UInt8} {j : Nat} (h : okR tx = true) (hs : s.drop j = quoL tx ++ rest) : qEnd s j = j + (quoL tx).length := by
  have e : quoL tx ++ rest = 34 :: (bodyL tx ++ (34 :: rest)) := by unfold quoL; simp
  rw [e] at hs
  obtain ⟨a1, d1⟩ := dropC hs
  unfold qEnd
  rw [endL_run d1 (bodyL_all h) (fun c hc => by simp at hc; rw [← hc]; rfl), quoL_len]
  have d2 := drop_more d1
  have := at_lt (dropC d2).1
  omega
set_option maxRecDepth 4000 in
theorem bodyP_leaf {s : List UInt8} {ps : List Pr} {tx : List Int} {rest : List UInt8} {j : Nat} (h : okR tx = true) (hs : s.drop j = quoL tx ++ rest) : bodyP s ps j = .ok (.mk true ps tx []) (j + (quoL tx).length) := by
  have hq := qEnd_write h hs
  have e : quoL tx ++ rest = 34 :: (bodyL tx ++ (34 :: rest)) := by unfold quoL; simp
  have hu : unqS s j = (tx, 0, 0) := by unfold unqS; rw [hq, cutS_of hs, unqL_quo tx h]
  have a1 : s[j]? = some 34 := by rw [e] at hs; exact (dropC hs).1
  unfold bodyP
  rw [if_neg (by rw [a1]; decide), if_pos a1, hu, hq]
  simp
set_option maxRecDepth 4000 in
theorem bodyP_elem {s : List UInt8} {ps : List Pr} {rest : List UInt8} {j : Nat} (hs : s.drop j = 91 :: rest) : bodyP s ps j = .ok (.mk false ps [] []) (j + 1) := by
  unfold bodyP; rw [if_pos (dropC hs).1]

set_option maxRecDepth 4000 in
/-- The texts' first bytes. -/
theorem quoL_head (tx : List Int) (rest : List UInt8) : (quoL tx ++ rest)[0]? = some 34 := rfl
set_option maxRecDepth 4000 in
theorem txtT_head (n : NT) (rest : List UInt8) : ∃ c, (txtT n ++ rest)[0]? = some c ∧ (c = 123 ∨ c = 34 ∨ c = 91) := by
  cases n with
  | mk lf ps tx ks =>
    cases ps with
    | nil =>
      rw [txtT, propsT]
      cases lf
      · exact ⟨91, by simp, by simp⟩
      · exact ⟨34, by simp [quoL], by simp⟩
    | cons p r =>
      rw [txtT, propsT]
      exact ⟨123, by simp [prT], by simp⟩
set_option maxRecDepth 4000 in
theorem txtT_pos (n : NT) : 0 < (txtT n).length := by
  obtain ⟨c, h, _⟩ := txtT_head n []
  rw [List.append_nil] at h
  exact (List.getElem?_eq_some_iff.1 h).1
set_option maxRecDepth 4000 in
theorem oneE_parts {lf : Bool} {ps : List Pr} {tx : List Int} {nk : Nat} (h : oneE lf ps tx nk = 0) : chk ps = 0 ∧ okR tx = true ∧ (lf = true → nk = 0) ∧ (lf = false → tx = []) := by
  have h1 := oneE_zero h
  unfold oneE at h
  rw [if_neg (by simp [h1])] at h
  split at h
  · cases h
  · rename_i h2
    refine ⟨h1, ?_, fun e => ?_, fun e => ?_⟩
    · unfold chkL at h; split at h
      · assumption
      · cases h
    · subst e; simp at h2; omega
    · subst e; simp at h2; exact h2
set_option maxRecDepth 4000 in
theorem beginP_write {s rest : List UInt8} {lf : Bool} {ps : List Pr} {tx : List Int} {ks : List NT} {i : Nat} (h : oneE lf ps tx ks.length = 0) (hs : s.drop i = txtT (.mk lf ps tx ks) ++ rest) :
    (lf = true → ks = [] ∧ beginP s i = .ok (.mk true ps tx []) (i + (txtT (.mk lf ps tx ks)).length)) ∧
    (lf = false → tx = [] ∧ beginP s i = .ok (.mk false ps [] []) (i + (propsT ps).length + 1) ∧ s.drop (i + (propsT ps).length + 1) = txtK ks ++ 93 :: rest) := by
  obtain ⟨h1, h2, h3, h4⟩ := oneE_parts h
  refine ⟨fun e => ?_, fun e => ?_⟩
  · subst e
    have hk : ks = [] := List.eq_nil_of_length_eq_zero (h3 rfl)
    refine ⟨hk, ?_⟩
    subst hk
    rw [txtT] at hs ⊢
    simp only [if_true, List.append_assoc] at hs ⊢
    have hh := headP_write s ps (quoL tx ++ rest) i h1 (fun c hc => by rw [quoL_head] at hc; injection hc with hc; rw [← hc]; decide) hs
    unfold beginP
    rw [hh]
    show bodyP s ps _ = _
    rw [bodyP_leaf h2 (drop_more hs), List.length_append, Nat.add_assoc]
  · subst e
    refine ⟨h4 rfl, ?_⟩
    rw [txtT] at hs
    simp only [Bool.false_eq_true, if_false, List.append_assoc, List.cons_append, List.nil_append] at hs
    have hh := headP_write s ps (91 :: (txtK ks ++ (93 :: rest))) i h1 (fun c hc => by simp at hc; rw [← hc]; decide) hs
    unfold beginP
    rw [hh]
    have d1 := drop_more hs
    exact ⟨bodyP_elem d1, (dropC d1).2⟩
set_option maxRecDepth 4000 in
theorem txtT_elem (ps : List Pr) (tx : List Int) (ks : List NT) : (txtT (.mk false ps tx ks)).length = (propsT ps).length + 1 + (txtK ks).length + 1 := by
  rw [txtT]; simp; omega
set_option maxRecDepth 4000 in
theorem mk_add (u : NT) (k : NT) (r : List NT) : NT.mk (addK u k).lf (addK u k).ps (addK u k).tx ((addK u k).ks ++ r) = .mk u.lf u.ps u.tx (u.ks ++ k :: r) := by
  simp [addK, NT.lf, NT.ps, NT.tx, NT.ks]
set_option maxRecDepth 4000 in
theorem head_no93 {s rest : List UInt8} {n : NT} {j : Nat} (hs : s.drop j = txtT n ++ rest) : s[j]? ≠ some 93 := by
  obtain ⟨c, hc, h3⟩ := txtT_head n rest
  rw [at_drop, hs, hc]
  intro e
  injection e with e
  subst e
  rcases h3 with h | h | h <;> cases h
set_option maxRecDepth 4000 in
theorem app_ne {a b : List UInt8} (h : 0 < a.length) : a ++ b ≠ [] := fun e => by
  have h2 := congrArg List.length e
  rw [List.length_append, List.length_nil] at h2
  omega
set_option maxRecDepth 4000 in
theorem drop_le {s a : List UInt8} {i : Nat} (h : s.drop i = a) (ha : a ≠ []) : i ≤ s.length := by
  rcases Nat.lt_or_ge s.length i with h1 | h1
  · exact absurd (h ▸ List.drop_eq_nil_of_le (by omega)) ha
  · exact h1
set_option maxRecDepth 4000 in
mutual
/-- A tree's text is read as the tree. -/
theorem node_write : ∀ (n : NT) (s rest : List UInt8) (i : Nat), chkT n = 0 → s.drop i = txtT n ++ rest → nodeW s i = .ok n (i + (txtT n).length)
  | .mk lf ps tx ks, s, rest, i, hc, hs => by
    obtain ⟨c1, c2⟩ := chkT_zero hc
    have hi : i ≤ s.length := drop_le hs (app_ne (txtT_pos _))
    obtain ⟨b1, b2⟩ := beginP_write c1 hs
    cases lf
    · obtain ⟨e1, e2, e3⟩ := b2 rfl
      rw [nodeW_elem hi e2 rfl, kids_write ks s rest _ _ c2 e3, txtT_elem]
      subst e1
      congr 1
      omega
    · obtain ⟨e1, e2⟩ := b1 rfl
      subst e1
      rw [nodeW_leaf e2 rfl]
theorem kids_write : ∀ (ks : List NT) (s rest : List UInt8) (u : NT) (j : Nat), chkK ks = 0 → s.drop j = txtK ks ++ 93 :: rest → kidsW s u j = .ok (.mk u.lf u.ps u.tx (u.ks ++ ks)) (j + (txtK ks).length + 1)
  | [], s, rest, u, j, _, hs => by
    rw [txtK, List.nil_append] at hs
    rw [kidsW_end (dropC hs).1, List.append_nil, NT.eta]
    rfl
  | k :: r, s, rest, u, j, hc, hs => by
    obtain ⟨c1, c2⟩ := chkK_zero hc
    rw [txtK, List.append_assoc] at hs
    have hj : j ≤ s.length := drop_le hs (app_ne (txtT_pos _))
    rw [kidsW_step hj (head_no93 hs) (node_write k s _ j c1 hs), kids_write r s rest _ _ c2 (drop_more hs), mk_add, txtK, List.length_append]
    congr 1
    omega
end

end Go.Proofs.YtknkclbjocfhiaaDoor
