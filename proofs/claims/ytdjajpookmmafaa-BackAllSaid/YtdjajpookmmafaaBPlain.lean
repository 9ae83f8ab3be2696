/- An inverse is as small as the operation. The inverse of an inverse, as plain data. -/
import Derived.Test.YtdjajpookmmafaaBAt
import Derived.Test.YtdjajpookmmafaaBSames
namespace Go.Proofs.Ytdjajpookmmafaa
open Go.RowKit

theorem flip_tiny {a : OpP} (t : Tiny a) : Tiny (flipO a).1 := by
  have h1 : (backL a.q).1.length ≤ 60 := by
    have := t.hq
    unfold backL
    split
    · simp
    · split
      · simp
      · obtain ⟨k, hk⟩ : ∃ k, a.q.length = k + 1 := ⟨a.q.length - 1, by omega⟩
        simp only [sib_eq a.q k hk, List.length_set]; omega
  have h2 : (nextL a.q).1.length ≤ 60 := by
    have := t.hq
    unfold nextL
    split
    · simp
    · split
      · simp
      · obtain ⟨k, hk⟩ : ∃ k, a.q.length = k + 1 := ⟨a.q.length - 1, by omega⟩
        simp only [sib_eq a.q k hk, List.length_set]; omega
  have z := Tiny.zero
  obtain ⟨t1, t2, t3, t4, t5, t6, t7, t8, t9⟩ := t
  unfold flipO
  split
  · split
    · exact ⟨h1, t2, t3, t5, t4, t6, t7, t8, t9⟩
    · exact z
  · split
    · split
      · exact ⟨h2, t2, t3, t5, t4, t6, t7, t8, t9⟩
      · exact z
    · split
      · exact ⟨t1, t2, t3, t5, t4, t6, t7, t8, t9⟩
      · split
        · exact ⟨t2, t1, t3, t4, t5, t6, t7, t8, t9⟩
        · split
          · exact ⟨t1, t2, t3, t4, t5, t8, t9, t6, t7⟩
          · exact ⟨t1, t2, t3, t4, t5, t6, t7, t8, t9⟩
set_option maxRecDepth 4000 in
theorem inv_tiny {a : OpP} (t : Tiny a) : Tiny (invO a).1 := by
  unfold invO
  split
  · exact flip_tiny t
  · exact Tiny.zero

end Go.Proofs.Ytdjajpookmmafaa

namespace Go.Proofs.Ytdjajpookmmafaa
open Go.RowKit

theorem next_of_back {l : List Int} (h : (backL l).2 = 0) (hm : lastL l ≤ 9223372036854775807) : nextL (backL l).1 = (l, 0) := by
  unfold backL at h ⊢
  by_cases h0 : l.length = 0
  · rw [if_pos h0] at h; exact absurd h (by decide)
  rw [if_neg h0] at h ⊢
  by_cases h1 : lastL l ≤ 0
  · rw [if_pos h1] at h; exact absurd h (by decide)
  rw [if_neg h1]
  show nextL (sib l (lastL l - 1)) = _
  unfold nextL
  rw [sib_length, if_neg h0, sib_last _ _ h0, if_neg (by omega), sib_sib, Int.sub_add_cancel, sib_self]
set_option maxRecDepth 4000 in
theorem back_of_next {l : List Int} (h : (nextL l).2 = 0) (hp : 0 ≤ lastL l) : backL (nextL l).1 = (l, 0) := by
  unfold nextL at h ⊢
  by_cases h0 : l.length = 0
  · rw [if_pos h0] at h; exact absurd h (by decide)
  rw [if_neg h0] at h ⊢
  by_cases h1 : lastL l = 9223372036854775807
  · rw [if_pos h1] at h; exact absurd h (by decide)
  rw [if_neg h1]
  show backL (sib l (lastL l + 1)) = _
  unfold backL
  rw [sib_length, if_neg h0, sib_last _ _ h0, if_neg (by omega), sib_sib, Int.add_sub_cancel, sib_self]
set_option maxRecDepth 4000 in
theorem last_pos {l : List Int} (h : checkL l = 0) : 0 ≤ lastL l := by
  unfold lastL
  by_cases h0 : l.length = 0
  · rw [List.eq_nil_of_length_eq_zero h0]; decide
  · rw [iAt_eq l _ (by omega)]
    unfold checkL at h
    split at h
    · rename_i h2
      exact of_decide_eq_true (List.all_eq_true.1 h2 _ (List.getElem_mem _))
    · exact absurd h (by decide)
set_option maxRecDepth 4000 in
theorem last_top {l : List Int} (h : InI l) : lastL l ≤ 9223372036854775807 := by
  unfold lastL
  by_cases h0 : l.length = 0
  · rw [List.eq_nil_of_length_eq_zero h0]; decide
  · exact (h _ (by omega)).1
set_option maxRecDepth 4000 in
/-- What has an inverse has the fields of its kind, and so has the inverse; the inverse's is it again. -/
theorem inv_inv {a : OpP} (h : (invO a).2 = 0) (hm : InI a.q) (hp : checkL a.q = 0) : formE (invO a).1 = 0 ∧ invO (invO a).1 = (a, 0) := by
  unfold invO at h
  by_cases hf : formE a = 0
  case neg => rw [if_neg hf] at h; exact absurd h (by decide)
  rw [if_pos hf] at h
  have e : invO a = flipO a := by unfold invO; rw [if_pos hf]
  rw [e]
  suffices hs : formE (flipO a).1 = 0 ∧ flipO (flipO a).1 = (a, 0) by
    exact ⟨hs.1, by unfold invO; rw [if_pos hs.1]; exact hs.2⟩
  obtain ⟨hk, hfl⟩ := form_eq hf
  simp only [kindB, Bool.and_eq_true, decide_eq_true_iff] at hk
  have lp := last_pos hp
  have lt := last_top hm
  clear hf e hp hm
  obtain ⟨k, q, t, z, n, o, w, x, f, g⟩ := a
  simp only at hk lp lt
  rcases kinds hk.1 hk.2 with rfl | rfl | rfl | rfl | rfl | rfl | rfl | rfl | rfl <;> clear hk
  case inr.inr.inl =>
    simp only [flipO, if_true] at h ⊢
    have hb : (backL q).2 = 0 := by
      by_cases hb : (backL q).2 = 0
      · exact hb
      · rw [if_neg hb] at h; exact absurd h hb
    rw [if_pos hb]
    have hn := next_of_back hb lt
    refine ⟨form_of rfl ?_, ?_⟩
    · simp [fieldsO, zeroO] at hfl ⊢
      simp only [@eq_comm _ zeroS, @eq_comm _ zeroT] at hfl
      simp [hfl]
    · simp [hn]
  case inr.inr.inr.inl =>
    simp only [flipO] at h ⊢
    simp only [show ¬ (4 : Int) = 3 by decide, if_false, if_true] at h ⊢
    have hb : (nextL q).2 = 0 := by
      by_cases hb : (nextL q).2 = 0
      · exact hb
      · rw [if_neg hb] at h; exact absurd h hb
    rw [if_pos hb]
    have hn := back_of_next hb lp
    refine ⟨form_of rfl ?_, ?_⟩
    · simp [fieldsO, zeroO] at hfl ⊢
      simp only [@eq_comm _ zeroS, @eq_comm _ zeroT] at hfl
      simp [hfl]
    · simp [hn]
  all_goals
    refine ⟨form_of rfl ?_, by simp [flipO, undoK]⟩
    simp [fieldsO, zeroO, flipO, undoK] at hfl ⊢
    try simp only [@eq_comm _ zeroS, @eq_comm _ zeroT] at hfl
    simp [hfl]
set_option maxRecDepth 4000 in
theorem inv_zero {a : OpP} (h : (invO a).2 ≠ 0) : invO a = (zeroO, (invO a).2) := by rw [← inv_no h]

set_option maxRecDepth 4000 in
/-- Lists. -/
theorem invs_ok : ∀ {l : List OpP}, (∀ a ∈ l, (invO a).2 = 0) → invs l = (l.map fun a => (invO a).1, 0)
  | [], _ => rfl
  | a :: r, h => by
    have h1 := invs_ok (l := r) fun b hb => h b (List.mem_cons_of_mem _ hb)
    rw [invs, if_pos (h a List.mem_cons_self), h1, if_pos rfl]
    rfl
set_option maxRecDepth 4000 in
theorem invs_stop : ∀ {l : List OpP} {a : OpP} {r : List OpP}, (∀ b ∈ l, (invO b).2 = 0) → (invO a).2 ≠ 0 → invs (l ++ a :: r) = ([], (invO a).2)
  | [], a, r, _, h => by rw [List.nil_append, invs, if_neg h]
  | b :: l, a, r, hl, h => by
    have h1 := invs_stop (l := l) (r := r) (fun c hc => hl c (List.mem_cons_of_mem _ hc)) h
    rw [List.cons_append, invs, if_pos (hl b List.mem_cons_self), h1, if_neg h]
set_option maxRecDepth 4000 in
theorem invs_no {l : List OpP} (h : (invs l).2 ≠ 0) : (invs l).1 = [] := by
  cases l with
  | nil => rfl
  | cons a r =>
    rw [invs] at h ⊢
    split
    · rename_i h1
      rw [if_pos h1] at h
      split
      · rename_i h2; rw [if_pos h2] at h; exact absurd rfl h
      · rfl
    · rfl
set_option maxRecDepth 4000 in
theorem invs_all : ∀ {l : List OpP}, (invs l).2 = 0 → ∀ a ∈ l, (invO a).2 = 0
  | [], _, a, h => by simp at h
  | b :: r, h, a, ha => by
    rw [invs] at h
    by_cases h1 : (invO b).2 = 0
    · rw [if_pos h1] at h
      by_cases h2 : (invs r).2 = 0
      · rcases List.mem_cons.1 ha with rfl | h3
        · exact h1
        · exact invs_all h2 a h3
      · rw [if_neg h2] at h; exact absurd h h2
    · rw [if_neg h1] at h; exact absurd h h1
set_option maxRecDepth 4000 in
theorem invs_app (l m : List OpP) : invs (l ++ m) = if (invs l).2 = 0 then (if (invs m).2 = 0 then ((invs l).1 ++ (invs m).1, 0) else ([], (invs m).2)) else ([], (invs l).2) := by
  induction l with
  | nil =>
    rw [List.nil_append, if_pos (show (invs []).2 = 0 from rfl)]
    by_cases h : (invs m).2 = 0
    · rw [if_pos h]; exact Prod.ext rfl h
    · rw [if_neg h, ← invs_no h]
  | cons a r ih =>
    rw [List.cons_append, invs, ih, invs]
    by_cases h1 : (invO a).2 = 0
    · simp only [if_pos h1]
      by_cases h2 : (invs r).2 = 0
      · simp only [if_pos h2]
        by_cases h3 : (invs m).2 = 0
        · simp only [if_pos h3, if_true, List.cons_append]
        · simp only [if_neg h3, if_true]
      · simp only [if_neg h2]
    · simp only [if_neg h1]
set_option maxRecDepth 4000 in
theorem all_no {l : List OpP} (h : (allO l).2 ≠ 0) : (allO l).1 = [] := invs_no h
set_option maxRecDepth 4000 in
theorem all_len {l : List OpP} (h : (allO l).2 = 0) : (allO l).1.length = l.length := by
  have h1 := invs_all h
  unfold allO
  rw [invs_ok h1]
  simp
set_option maxRecDepth 4000 in
theorem all_ok {l : List OpP} (h : (allO l).2 = 0) : allO l = (l.reverse.map fun a => (invO a).1, 0) := by
  unfold allO
  exact invs_ok (invs_all h)
set_option maxRecDepth 4000 in
theorem all_app (l m : List OpP) : allO (l ++ m) = if (allO m).2 = 0 then (if (allO l).2 = 0 then ((allO m).1 ++ (allO l).1, 0) else ([], (allO l).2)) else ([], (allO m).2) := by
  unfold allO
  rw [List.reverse_append, invs_app]
set_option maxRecDepth 4000 in
theorem all_all {l : List OpP} (h : (allO l).2 = 0) (hm : ∀ a ∈ l, InI a.q ∧ checkL a.q = 0) : allO (allO l).1 = (l, 0) := by
  have h1 := invs_all h
  have h2 : ∀ a ∈ l, (invO a).2 = 0 := fun a ha => h1 a (List.mem_reverse.2 ha)
  rw [all_ok h]
  unfold allO
  rw [← List.map_reverse, List.reverse_reverse, invs_ok (fun b hb => by
    obtain ⟨a, ha, rfl⟩ := List.mem_map.1 hb
    rw [(inv_inv (h2 a ha) (hm a ha).1 (hm a ha).2).2])]
  rw [List.map_map]
  congr 1
  conv => rhs; rw [← List.map_id l]
  exact List.map_congr_left fun a ha => by
    show (invO (invO a).1).1 = a
    rw [(inv_inv (h2 a ha) (hm a ha).1 (hm a ha).2).2]
set_option maxRecDepth 4000 in
theorem all_tiny {l : List OpP} (h : ∀ (k : Nat) (a : OpP), l[k]? = some a → Tiny a) (ht : ∀ a, Tiny a → Tiny (invO a).1) : ∀ (k : Nat) (a : OpP), (allO l).1[k]? = some a → Tiny a := by
  by_cases he : (allO l).2 = 0
  · rw [all_ok he]
    intro k a hk
    obtain ⟨b, hb, rfl⟩ := List.mem_map.1 (List.mem_of_getElem? hk)
    obtain ⟨j, hj⟩ := List.getElem?_of_mem (List.mem_reverse.1 hb)
    exact ht b (h j b hj)
  · rw [all_no he]
    intro k a hk
    simp at hk

end Go.Proofs.Ytdjajpookmmafaa
