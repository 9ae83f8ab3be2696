/- What follows of where a path's node goes: plain facts; no program is named here. -/
import Derived.Test.YtdjajpookmmafaaXText
namespace Go.Proofs.Ytdjajpookmmafaa

/-! How q stands to p, by their numbers. -/
set_option maxRecDepth 4000 in
theorem alike_ge (a b : List Int) (k : Nat) (h1 : k ≤ a.length) (h2 : k ≤ b.length) (h : ∀ j, j < k → iAt a j = iAt b j) : k ≤ alikeN a b := by
  rcases Nat.lt_or_ge (alikeN a b) k with hl | hg
  · exact absurd (h _ hl) (alikeN_ne a b (by omega) (by omega))
  · exact hg
set_option maxRecDepth 4000 in
theorem stand_1 {q p : List Int} {k : Nat} (hk : q.length = k + 1) : standL q p = 1 ↔ k < p.length ∧ (∀ j, j < k → iAt q j = iAt p j) ∧ iAt q k < iAt p k := by
  rw [standL_left, leftL_iff]
  constructor
  · rintro ⟨h1, h2, h3⟩
    have e : alikeN q p = k := by omega
    rw [e] at h2 h3
    exact ⟨h2, fun j hj => alikeN_same q p j (by omega), h3⟩
  · rintro ⟨h1, h2, h3⟩
    have e : alikeN q p = k := alikeN_of q p k (by omega) (by omega) h2 (fun _ _ => by omega)
    rw [e]
    exact ⟨by omega, h1, h3⟩
set_option maxRecDepth 4000 in
theorem stand_2 {q p : List Int} : standL q p = 2 ↔ q = p := by
  rcases standL_cases q p with ⟨h0, _, h2, _⟩ | ⟨h0, _, h2, _⟩ | ⟨h0, _, h2, _⟩ | ⟨h0, _, h2, _⟩
  · rw [h0]; unfold samI at h2; have := of_decide_eq_false h2; simp [this]
  · rw [h0]; unfold samI at h2; have := of_decide_eq_true h2; simp [this]
  · rw [h0]; unfold samI at h2; have := of_decide_eq_false h2; simp [this]
  · rw [h0]; unfold samI at h2; have := of_decide_eq_false h2; simp [this]
set_option maxRecDepth 4000 in
theorem stand_3 {q p : List Int} : standL q p = 3 ↔ q.length < p.length ∧ ∀ j, j < q.length → iAt q j = iAt p j := by
  have hx : aboveL q p = true ↔ q.length < p.length ∧ ∀ j, j < q.length → iAt q j = iAt p j := by
    rw [aboveL_iff]
    constructor
    · rintro ⟨h1, h2⟩; exact ⟨h1, fun j hj => prefix_at h2 hj⟩
    · rintro ⟨h1, h2⟩
      refine ⟨h1, (alikeN_prefix q p).1 ?_⟩
      have := alike_ge q p q.length (Nat.le_refl _) (by omega) h2
      have := (alikeN_le q p).1
      omega
  rw [← hx]
  rcases standL_cases q p with ⟨h0, _, _, h2⟩ | ⟨h0, _, _, h2⟩ | ⟨h0, _, _, h2⟩ | ⟨h0, _, _, h2⟩ <;> simp [h0, h2]
set_option maxRecDepth 4000 in
theorem stand_two {q p : List Int} {k : Nat} (hk : q.length = k + 1) (h : standL q p = 2 ∨ standL q p = 3) : k < p.length ∧ ∀ j, j < k + 1 → iAt q j = iAt p j := by
  rcases h with h | h
  · rw [stand_2] at h; subst h; exact ⟨by omega, fun _ _ => rfl⟩
  · rw [stand_3] at h; exact ⟨by omega, fun j hj => h.2 j (by omega)⟩
set_option maxRecDepth 4000 in
theorem stand_not {q p : List Int} {k : Nat} (hk : q.length = k + 1) : standL q p ≠ 0 ↔ k < p.length ∧ (∀ j, j < k → iAt q j = iAt p j) ∧ iAt q k ≤ iAt p k := by
  constructor
  · intro h
    rcases standL_cases q p with ⟨h0, _⟩ | ⟨h0, _⟩ | ⟨h0, _⟩ | ⟨h0, _⟩
    · have := (stand_1 hk).1 h0; exact ⟨this.1, this.2.1, by omega⟩
    · have := stand_two hk (.inl h0); exact ⟨this.1, fun j hj => this.2 j (by omega), by have := this.2 k (by omega); omega⟩
    · have := stand_two hk (.inr h0); exact ⟨this.1, fun j hj => this.2 j (by omega), by have := this.2 k (by omega); omega⟩
    · exact absurd h0 h
  · rintro ⟨h1, h2, h3⟩ h0
    have g1 : standL q p ≠ 1 := by omega
    have g2 : standL q p ≠ 2 := by omega
    have g3 : standL q p ≠ 3 := by omega
    rw [Ne, stand_1 hk] at g1
    have e : iAt q k = iAt p k := by
      rcases Int.lt_or_le (iAt q k) (iAt p k) with h | h
      · exact absurd ⟨h1, h2, h⟩ g1
      · omega
    have ea : ∀ j, j < k + 1 → iAt q j = iAt p j := fun j hj => by
      rcases (show j < k ∨ j = k by omega) with h | rfl
      · exact h2 j h
      · exact e
    rcases (show k + 1 = p.length ∨ k + 1 < p.length by omega) with h | h
    · rw [Ne, stand_2] at g2
      exact g2 (iAt_ext (by omega) (fun j hj => ea j (by omega)))
    · rw [Ne, stand_3] at g3
      exact g3 ⟨by omega, fun j hj => ea j (by omega)⟩
set_option maxRecDepth 4000 in
theorem stand_four (q p : List Int) : standL q p = 0 ∨ standL q p = 1 ∨ standL q p = 2 ∨ standL q p = 3 := by
  rcases standL_cases q p with ⟨h, _⟩ | ⟨h, _⟩ | ⟨h, _⟩ | ⟨h, _⟩ <;> omega
set_option maxRecDepth 4000 in
theorem plus1 (l : List Int) (k : Nat) (v : Int) : plusL l k [v] = addL l k v := rfl
set_option maxRecDepth 4000 in
theorem plus2 (l : List Int) (k : Nat) (v u : Int) : plusL l k [v, u] = addL (addL l k v) (k + 1) u := rfl

/-- No number is the greatest one. -/
def capless (l : List Int) : Bool := l.all fun n => decide (n ≠ 1048576)
set_option maxRecDepth 4000 in
theorem capless_iff (l : List Int) : capless l = true ↔ ∀ k, k < l.length → iAt l k ≠ 1048576 := by
  unfold capless
  simp only [List.all_eq_true, decide_eq_true_iff]
  constructor
  · intro h k hk; rw [iAt_eq l k hk]; exact h _ (List.getElem_mem hk)
  · intro h x hx
    obtain ⟨k, hk, rfl⟩ := List.getElem_of_mem hx
    have := h k hk
    rwa [iAt_eq l k hk] at this
set_option maxRecDepth 4000 in
theorem capless_append (l m : List Int) : capless (l ++ m) = (capless l && capless m) := by simp [capless]
set_option maxRecDepth 4000 in
theorem small_more {p : List Int} {k : Nat} {v : Int} (hp : smallI p = true) (hv : k < p.length → 0 ≤ iAt p k + v ∧ iAt p k + v ≤ 1048576) : smallI (addL p k v) = true := by
  rw [smallI_iff] at *
  intro j hj
  rw [addL_len] at hj
  by_cases e : j = k
  · subst e; rw [addL_at _ _ _ hj]; exact hv hj
  · rw [addL_ne _ _ _ _ e]; exact hp j hj
set_option maxRecDepth 4000 in
theorem small_append {l m : List Int} (hl : smallI l = true) (hm : smallI m = true) : smallI (l ++ m) = true := by
  unfold smallI at *; simp only [List.all_append, hl, hm]; rfl
set_option maxRecDepth 4000 in
theorem small_drop {l : List Int} (hl : smallI l = true) (n : Nat) : smallI (l.drop n) = true := by
  unfold smallI at *
  rw [List.all_eq_true] at *
  exact fun x hx => hl x (List.mem_of_mem_drop hx)
set_option maxRecDepth 4000 in
theorem moveL_B {K pos : Int} {q t p : List Int} (h1 : smallI p = true) (h2 : smallI q = true) (h3 : smallI t = true) (h4 : smallN pos = true) (hK : K ≠ 5) : moveL K q t pos p = moveB K q pos p := by
  unfold moveL; rw [h1, h2, h3, h4, if_pos (show (true && true && true && true) = true from rfl), if_neg (fun h => hK h.1)]

/-! A node put in, and taken out. -/
set_option maxRecDepth 4000 in
theorem ins_is {q p : List Int} {k : Nat} (hk : q.length = k + 1) : moveB 1 q 0 p = (if standL q p = 0 then p else addL p k 1, true) := by
  unfold moveB; rw [if_neg (by omega), if_pos rfl, hk]; split <;> rfl
set_option maxRecDepth 4000 in
theorem rem_is {q p : List Int} {k : Nat} (hk : q.length = k + 1) : moveB 2 q 0 p = if standL q p = 0 then (p, true) else if standL q p = 1 then (addL p k (-1), true) else noR := by
  unfold moveB; rw [if_neg (by omega), if_neg (by decide), if_pos rfl, hk]; rfl
set_option maxRecDepth 4000 in
/-- Behind a node put in at q no path is q, or below it, and its being taken out moves all back. -/
theorem ins_back {q p : List Int} {k : Nat} (hk : q.length = k + 1) : (standL q (moveB 1 q 0 p).1 = 0 ∨ standL q (moveB 1 q 0 p).1 = 1) ∧ moveB 2 q 0 (moveB 1 q 0 p).1 = (p, true) := by
  rw [ins_is hk]
  by_cases h : standL q p = 0
  · rw [if_pos h]
    exact ⟨.inl h, by rw [rem_is hk, if_pos h]⟩
  · rw [if_neg h]
    obtain ⟨h1, h2, h3⟩ := (stand_not hk).1 h
    have e : standL q (addL p k 1) = 1 := (stand_1 hk).2 ⟨by rw [addL_len]; exact h1, fun j hj => by rw [addL_ne _ _ _ _ (by omega)]; exact h2 j hj, by rw [addL_at _ _ _ h1]; omega⟩
    show (standL q (addL p k 1) = 0 ∨ standL q (addL p k 1) = 1) ∧ moveB 2 q 0 (addL p k 1) = (p, true)
    exact ⟨.inr e, by rw [rem_is hk, if_neg (by omega), if_pos e, addL_back _ _ _ _ (by decide)]⟩
set_option maxRecDepth 4000 in
/-- Behind a node taken out its being put in again moves all back. -/
theorem rem_back {q p r : List Int} {k : Nat} (hk : q.length = k + 1) (h : moveB 2 q 0 p = (r, true)) : moveB 1 q 0 r = (p, true) := by
  rw [rem_is hk] at h
  split at h
  · rename_i h0
    injection h with h _
    subst h
    rw [ins_is hk, if_pos h0]
  · split at h
    · rename_i h1
      injection h with h _
      subst h
      obtain ⟨g1, g2, g3⟩ := (stand_1 hk).1 h1
      have e : standL q (addL p k (-1)) ≠ 0 := (stand_not hk).2 ⟨by rw [addL_len]; exact g1, fun j hj => by rw [addL_ne _ _ _ _ (by omega)]; exact g2 j hj, by rw [addL_at _ _ _ g1]; omega⟩
      rw [ins_is hk, if_neg e, addL_back _ _ _ _ (by decide)]
    · cases h
set_option maxRecDepth 4000 in
theorem ins_small {q p : List Int} {k : Nat} (hk : q.length = k + 1) (hp : smallI p = true) (hc : capless p = true) : smallI (moveB 1 q 0 p).1 = true := by
  rw [ins_is hk]
  split
  · exact hp
  · refine small_more hp fun h => ?_
    have h1 := (smallI_iff p).1 hp k h
    have h2 := (capless_iff p).1 hc k h
    omega
set_option maxRecDepth 4000 in
theorem stand_sam {q p : List Int} (h : standL q p = 0 ∨ standL q p = 1) : samI p q = false ∧ samI q p = false ∧ aboveL q p = false := by
  have hs : samI p q = samI q p := by unfold samI; rw [decide_eq_decide]; exact ⟨Eq.symm, Eq.symm⟩
  rw [hs]
  rcases standL_cases q p with ⟨_, _, h2, h3⟩ | ⟨h0, _⟩ | ⟨h0, _⟩ | ⟨_, _, h2, h3⟩
  · exact ⟨h2, h2, h3⟩
  · omega
  · omega
  · exact ⟨h2, h2, h3⟩
set_option maxRecDepth 4000 in
/-- XpathInsert's. -/
theorem law_insert {p q : List Int} {k : Nat} (hk : q.length = k + 1) (hp : smallI p = true) (hq : smallI q = true) (hc : capless p = true) :
    ∃ a, moveL 1 q [] 0 p = (a, true) ∧ a.length = p.length ∧ samI a q = false ∧ aboveL q a = false ∧ moveL 2 q [] 0 a = (p, true) := by
  have h := ins_back (p := p) hk
  have hs := ins_small hk hp hc
  refine ⟨(moveB 1 q 0 p).1, ?_, ?_, (stand_sam h.1).1, (stand_sam h.1).2.2, ?_⟩
  · rw [moveL_B hp hq rfl rfl (by decide), ins_is hk]
  · rw [ins_is hk]; split
    · rfl
    · exact addL_len _ _ _
  · rw [moveL_B hs hq rfl rfl (by decide)]; exact h.2

/-! A node split, and its second part merged. -/
set_option maxRecDepth 4000 in
theorem law_split {p q : List Int} {k : Nat} {pos : Int} (hk : q.length = k + 1) (hp : smallI p = true) (hq : smallI q = true) (hc : capless p = true) (hc2 : capless q = true) (hpos : smallN pos = true) :
    ∃ a, moveL 4 q [] pos p = (a, true) ∧ a.length = p.length ∧ samI a (addL q k 1) = false ∧ moveL 3 (addL q k 1) [] pos a = (p, true) := by
  obtain ⟨x, hx⟩ : ∃ x, x = addL q k 1 := ⟨_, rfl⟩
  have hxk : x.length = k + 1 := by rw [hx, addL_len, hk]
  have hxa : iAt x k = iAt q k + 1 := by rw [hx, addL_at _ _ _ (by omega)]
  have hxn : ∀ j, j < k → iAt x j = iAt q j := fun j hj => by rw [hx, addL_ne _ _ _ _ (by omega)]
  have q0 := (smallI_iff q).1 hq k (by omega)
  have q1 := (capless_iff q).1 hc2 k (by omega)
  have hxs : smallI x = true := hx ▸ small_more hq fun _ => by omega
  have hxl : lastL x ≠ 0 := by rw [lastL, hxk, Nat.add_sub_cancel, hxa]; omega
  obtain ⟨p0, p1⟩ := (smallN_iff pos).1 hpos
  rw [← hx]
  have m4 : moveL 4 q [] pos p = moveB 4 q pos p := moveL_B hp hq rfl hpos (by decide)
  have key : ∀ a, moveB 4 q pos p = (a, true) → a.length = p.length → smallI a = true → samI a x = false → moveB 3 x pos a = (p, true) → ∃ a, moveL 4 q [] pos p = (a, true) ∧ a.length = p.length ∧ samI a x = false ∧ moveL 3 x [] pos a = (p, true) := fun a h1 h2 h3 h4 h5 =>
    ⟨a, m4.trans h1, h2, h4, (moveL_B h3 hxs rfl hpos (by decide)).trans h5⟩
  rcases stand_four q p with h | h | h | h
  · have e : standL x p = 0 := by
      rcases Classical.em (standL x p = 0) with h0 | h0
      · exact h0
      · obtain ⟨g1, g2, g3⟩ := (stand_not hxk).1 h0
        exact absurd ((stand_not hk).2 ⟨g1, fun j hj => by rw [← hxn j hj]; exact g2 j hj, by omega⟩) (by omega)
    exact key p (by simp [moveB, h, hk]) rfl hp (stand_sam (.inl e)).1 (by simp [moveB, e, hxk, hxl])
  · obtain ⟨g1, g2, g3⟩ := (stand_1 hk).1 h
    have c1 := (smallI_iff p).1 hp k g1
    have c2 := (capless_iff p).1 hc k g1
    have e : standL x (addL p k 1) = 1 := (stand_1 hxk).2 ⟨by rw [addL_len]; exact g1, fun j hj => by rw [hxn j hj, addL_ne _ _ _ _ (by omega)]; exact g2 j hj, by rw [hxa, addL_at _ _ _ g1]; omega⟩
    refine key (addL p k 1) (by simp [moveB, h, hk, plus1]) (addL_len _ _ _) (small_more hp fun _ => by omega) (stand_sam (.inr e)).1 ?_
    simp [moveB, e, hxk, hxl, plus1, addL_back]
  · obtain ⟨g1, g2⟩ := stand_two hk (.inl h)
    have e : standL x p = 0 := by
      rcases Classical.em (standL x p = 0) with h0 | h0
      · exact h0
      · obtain ⟨_, _, g3⟩ := (stand_not hxk).1 h0
        have := g2 k (by omega)
        omega
    exact key p (by simp [moveB, h, hk]) rfl hp (stand_sam (.inl e)).1 (by simp [moveB, e, hxk, hxl])
  · obtain ⟨g1, g2⟩ := stand_two hk (.inr h)
    have g3 := g2 k (by omega)
    by_cases hpp : pos ≤ iAt p (k + 1)
    · have g4 := ((stand_3).1 h).1
      have c1 := (smallI_iff p).1 hp k g1
      have c2 := (capless_iff p).1 hc k g1
      have c3 := (smallI_iff p).1 hp (k + 1) (by omega)
      have e : standL x (addL (addL p k 1) (k + 1) (-pos)) = 3 := (stand_3).2 ⟨by rw [addL_len, addL_len]; omega, fun j hj => by
        rw [addL_ne _ _ _ _ (by omega)]
        rcases (show j < k ∨ j = k by omega) with hj | rfl
        · rw [hxn j hj, addL_ne _ _ _ _ (by omega)]; exact g2 j (by omega)
        · rw [hxa, addL_at _ _ _ g1]; omega⟩
      refine key _ (by simp [moveB, h, hk, plus2, hpp]; rfl) (by rw [addL_len, addL_len]) (small_more (small_more hp fun _ => by omega) fun _ => by rw [addL_ne _ _ _ _ (by omega)]; omega) ?_ ?_
      · have : samI x (addL (addL p k 1) (k + 1) (-pos)) = false := by
          rcases standL_cases x (addL (addL p k 1) (k + 1) (-pos)) with ⟨h0, _⟩ | ⟨h0, _⟩ | ⟨_, _, h2, _⟩ | ⟨h0, _⟩
          · omega
          · omega
          · exact h2
          · omega
        unfold samI at *
        exact decide_eq_false fun h => of_decide_eq_false this h.symm
      · have eb : addL (addL (addL (addL p k 1) (k + 1) (-pos)) k (-1)) (k + 1) pos = p := by
          refine iAt_ext (by simp [addL_len]) fun j hj => ?_
          simp only [addL_len] at hj
          by_cases e1 : j = k + 1
          · subst e1
            rw [addL_at _ _ _ (by simp [addL_len]; omega), addL_ne _ _ _ _ (by omega), addL_at _ _ _ (by simp [addL_len]; omega), addL_ne _ _ _ _ (by omega)]
            omega
          · by_cases e2 : j = k
            · subst e2
              rw [addL_ne _ _ _ _ (by omega), addL_at _ _ _ (by simp [addL_len]; omega), addL_ne _ _ _ _ (by omega), addL_at _ _ _ g1]
              omega
            · rw [addL_ne _ _ _ _ e1, addL_ne _ _ _ _ e2, addL_ne _ _ _ _ e1, addL_ne _ _ _ _ e2]
        simp only [moveB, e, hxk, hxl, plus2, if_true, if_false, Nat.add_sub_cancel, Nat.add_one_ne_zero]
        simp [eb]
    · have e : standL x p = 0 := by
        rcases Classical.em (standL x p = 0) with h0 | h0
        · exact h0
        · obtain ⟨_, _, g3⟩ := (stand_not hxk).1 h0
          omega
      exact key p (by simp [moveB, h, hk, hpp]) rfl hp (stand_sam (.inl e)).1 (by simp [moveB, e, hxk, hxl])
set_option maxRecDepth 4000 in
theorem next_add {q : List Int} {k : Nat} (hk : q.length = k + 1) (hq : smallI q = true) : nextL q = (addL q k 1, 0) := by
  have q0 := (smallI_iff q).1 hq k (by omega)
  have hl : lastL q = iAt q k := by rw [lastL, hk, Nat.add_sub_cancel]
  unfold nextL
  rw [if_neg (by omega), hl, if_neg (by omega)]
  unfold sib addL
  rw [hk, Nat.add_sub_cancel]

/-! A node moved, and moved back. -/
set_option maxRecDepth 4000 in
theorem moveL_move {q t p : List Int} {k : Nat} (hk : q.length = k + 1) (hp : smallI p = true) (hq : smallI q = true) (ht : smallI t = true) : moveL 5 q t 0 p = if standL q p = 2 ∨ standL q p = 3 then (t ++ p.drop (k + 1), true) else moveB 1 t 0 (moveB 2 q 0 p).1 := by
  unfold moveL
  rw [hp, hq, ht, show smallN 0 = true from rfl, if_pos (show (true && true && true && true) = true from rfl), if_pos ⟨rfl, by omega⟩, hk]
set_option maxRecDepth 4000 in
theorem law_move {p q t : List Int} {k m : Nat} (hk : q.length = k + 1) (hm : t.length = m + 1) (hp : smallI p = true) (hq : smallI q = true) (ht : smallI t = true) (hc : capless p = true) :
    ∃ a, moveL 5 q t 0 p = (a, true) ∧ a.length ≤ p.length + t.length ∧ moveL 5 t q 0 a = (p, true) := by
  by_cases h : standL q p = 2 ∨ standL q p = 3
  · obtain ⟨g1, g2⟩ := stand_two hk h
    have hs := small_append ht (small_drop hp (k + 1))
    refine ⟨t ++ p.drop (k + 1), by rw [moveL_move hk hp hq ht, if_pos h], by simp; omega, ?_⟩
    have e : standL t (t ++ p.drop (k + 1)) = 2 ∨ standL t (t ++ p.drop (k + 1)) = 3 := by
      rcases Nat.eq_zero_or_pos (p.drop (k + 1)).length with h0 | h0
      · left; rw [stand_2, List.eq_nil_of_length_eq_zero h0, List.append_nil]
      · right
        exact stand_3.2 ⟨by simp at h0 ⊢; omega, fun j hj => prefix_at (List.prefix_append _ _) hj⟩
    rw [moveL_move hm hs ht hq, if_pos e]
    have ed : (t ++ p.drop (k + 1)).drop (m + 1) = p.drop (k + 1) := by rw [← hm, List.drop_left]
    rw [ed]
    have et : q = p.take (k + 1) := iAt_ext (by simp; omega) fun j hj => by
      rw [g2 j (by omega), iAt_eq (p.take (k + 1)) j (by simp; omega), iAt_eq p j (by omega)]; simp
    rw [et, List.take_append_drop]
  · obtain ⟨r, hr⟩ : ∃ r, moveB 2 q 0 p = (r, true) := by
      rw [rem_is hk]
      split
      · exact ⟨_, rfl⟩
      · split
        · exact ⟨_, rfl⟩
        · have := stand_four q p; omega
    have hrl : r.length = p.length ∧ smallI r = true ∧ capless r = true := by
      rw [rem_is hk] at hr
      split at hr
      · injection hr with hr _; subst hr; exact ⟨rfl, hp, hc⟩
      · split at hr
        · rename_i h1
          injection hr with hr _
          subst hr
          obtain ⟨g1, g2, g3⟩ := (stand_1 hk).1 h1
          have q0 := (smallI_iff q).1 hq k (by omega)
          have c1 := (smallI_iff p).1 hp k g1
          refine ⟨addL_len _ _ _, small_more hp fun _ => by omega, (capless_iff _).2 fun j hj => ?_⟩
          rw [addL_len] at hj
          by_cases e : j = k
          · subst e; rw [addL_at _ _ _ hj]; omega
          · rw [addL_ne _ _ _ _ e]; exact (capless_iff p).1 hc j hj
        · cases hr
    have hb := ins_back (p := r) hm
    have hs := ins_small hm hrl.2.1 hrl.2.2
    refine ⟨(moveB 1 t 0 r).1, by rw [moveL_move hk hp hq ht, if_neg h, hr, ins_is hm], ?_, ?_⟩
    · rw [ins_is hm]
      split
      · show r.length ≤ _; omega
      · show (addL r m 1).length ≤ _; rw [addL_len]; omega
    · rw [moveL_move hm hs ht hq, if_neg (by have := hb.1; omega), hb.2]
      exact rem_back hk hr

/-! Nodes put in, or taken out, leave all others in their order. -/
def insR : List Int → List Int → List Int
  | [x], y :: p => (if x ≤ y then y + 1 else y) :: p
  | x :: x2 :: q, y :: p => if x = y then y :: insR (x2 :: q) p else y :: p
  | _, p => p
def remR : List Int → List Int → List Int
  | [x], y :: p => (if x < y then y - 1 else y) :: p
  | x :: x2 :: q, y :: p => if x = y then y :: remR (x2 :: q) p else y :: p
  | _, p => p
set_option maxRecDepth 4000 in
theorem stand_nil (x : Int) (q : List Int) : standL (x :: q) [] = 0 := by
  rcases Classical.em (standL (x :: q) [] = 0) with h | h
  · exact h
  · have := ((stand_not (k := q.length) (by simp)).1 h).1
    simp at this
set_option maxRecDepth 4000 in
theorem stand_cons (x : Int) (q : List Int) (y : Int) (p : List Int) (hq : q ≠ []) : standL (x :: q) (y :: p) = if x = y then standL q p else 0 := by
  obtain ⟨k, hk⟩ : ∃ k, q.length = k + 1 := ⟨q.length - 1, by have := List.length_pos_iff.2 hq; omega⟩
  by_cases e : x = y
  · subst e
    rw [if_pos rfl]
    unfold standL
    have e1 : leftL (x :: q) (x :: p) = leftL q p := by
      unfold leftL; simp [alikeN, iAt]
    have e2 : samI (x :: q) (x :: p) = samI q p := by unfold samI; simp
    rw [e1, e2, aboveL_cons]
  · rw [if_neg e]
    rcases Classical.em (standL (x :: q) (y :: p) = 0) with h | h
    · exact h
    · have := ((stand_not (k := k + 1) (by simp [hk])).1 h).2.1 0 (by omega)
      simp [iAt] at this
      exact absurd this e
set_option maxRecDepth 4000 in
theorem stand_one (x y : Int) (p : List Int) : (standL [x] (y :: p) = 0 ↔ y < x) ∧ (standL [x] (y :: p) = 1 ↔ x < y) := by
  have h1 := stand_not (q := [x]) (p := y :: p) (k := 0) rfl
  have h2 := stand_1 (q := [x]) (p := y :: p) (k := 0) rfl
  simp [iAt] at h1 h2
  exact ⟨⟨fun h => by omega, fun h => by omega⟩, h2⟩
set_option maxRecDepth 4000 in
theorem addL_cons (y : Int) (p : List Int) (k : Nat) (v : Int) : addL (y :: p) (k + 1) v = y :: addL p k v := by simp [addL, iAt]
set_option maxRecDepth 4000 in
theorem insR_is : ∀ (q p : List Int), q ≠ [] → (moveB 1 q 0 p).1 = insR q p
  | [], _ => fun h => absurd rfl h
  | x :: q, [] => fun _ => by
    rw [ins_is (k := q.length) (by simp), stand_nil]
    cases q <;> rfl
  | [x], y :: p => fun _ => by
    rw [ins_is (k := 0) rfl, insR]
    have := (stand_one x y p).1
    by_cases h : x ≤ y
    · rw [if_pos h, if_neg (by rw [this]; omega)]; simp [addL, iAt]
    · rw [if_neg h, if_pos (this.2 (by omega))]
  | x :: x2 :: q, y :: p => fun _ => by
    have ih := insR_is (x2 :: q) p (by simp)
    rw [ins_is (k := q.length) (by simp)] at ih
    rw [ins_is (k := q.length + 1) (by simp), insR, stand_cons _ _ _ _ (by simp)]
    by_cases h : x = y
    · rw [if_pos h, if_pos h, ← ih]
      simp only
      split
      · rfl
      · rw [addL_cons]
    · rw [if_neg h, if_neg h, if_pos rfl]
set_option maxRecDepth 4000 in
theorem remR_is : ∀ (q p : List Int), q ≠ [] → (standL q p = 0 ∨ standL q p = 1) → (moveB 2 q 0 p).1 = remR q p
  | [], _ => fun h => absurd rfl h
  | x :: q, [] => fun _ _ => by
    rw [rem_is (k := q.length) (by simp), stand_nil]
    cases q <;> rfl
  | [x], y :: p => fun _ hs => by
    rw [rem_is (k := 0) rfl, remR]
    have := stand_one x y p
    by_cases h : x < y
    · rw [if_pos h, if_neg (by rw [this.1]; omega), if_pos (this.2.2 h)]; simp [addL, iAt]; omega
    · rw [if_neg h, if_pos (by rcases hs with h0 | h0; exact h0; exact absurd (this.2.1 h0) h)]
  | x :: x2 :: q, y :: p => fun _ hs => by
    rw [stand_cons _ _ _ _ (by simp)] at hs
    rw [rem_is (k := q.length + 1) (by simp), remR, stand_cons _ _ _ _ (by simp)]
    by_cases h : x = y
    · rw [if_pos h] at hs
      have ih := remR_is (x2 :: q) p (by simp) hs
      rw [rem_is (k := q.length) (by simp)] at ih
      rw [if_pos h, if_pos h, ← ih]
      split
      · rfl
      · split
        · simp only; rw [addL_cons]
        · omega
    · rw [if_neg h, if_neg h, if_pos rfl]
set_option maxRecDepth 4000 in
theorem cmpL_head {x y : Int} (a b : List Int) (h : x ≠ y) : cmpL (x :: a) (y :: b) = if x < y then -1 else 1 := by
  rw [cmpL]; split
  · rfl
  · rw [if_pos (by omega)]
set_option maxRecDepth 4000 in
/-- Two heads and their places: the same order, the same tails. -/
theorem heads {x y x' y' : Int} (a b : List Int) (h1 : x' < y' ↔ x < y) (h2 : x' = y' ↔ x = y) : cmpL (x' :: a) (y' :: b) = cmpL (x :: a) (y :: b) ∧ aboveL (x' :: a) (y' :: b) = aboveL (x :: a) (y :: b) := by
  by_cases e : x = y
  · have e' := h2.2 e
    subst e e'
    rw [cmpL_cons, cmpL_cons, aboveL_cons, aboveL_cons]; exact ⟨rfl, rfl⟩
  · have e' : x' ≠ y' := fun h => e (h2.1 h)
    rw [cmpL_head _ _ e, cmpL_head _ _ e', aboveL_ne _ _ e, aboveL_ne _ _ e']
    refine ⟨?_, rfl⟩
    by_cases h : x < y
    · rw [if_pos h, if_pos (h1.2 h)]
    · rw [if_neg h, if_neg (fun g => h (h1.1 g))]
set_option maxRecDepth 4000 in
theorem nil_heads {x x' : Int} (a b : List Int) : (cmpL [] (x' :: a) = cmpL [] (x :: b) ∧ aboveL [] (x' :: a) = aboveL [] (x :: b)) ∧ (cmpL (x' :: a) [] = cmpL (x :: b) [] ∧ aboveL (x' :: a) [] = aboveL (x :: b) []) := by
  simp [cmpL, aboveL, alikeN]
set_option maxRecDepth 4000 in
theorem insR_head (x : Int) (q : List Int) (y : Int) (p : List Int) : ∃ y' p', insR (x :: q) (y :: p) = y' :: p' := by
  cases q with
  | nil => exact ⟨_, _, rfl⟩
  | cons x2 q => rw [insR]; split <;> exact ⟨_, _, rfl⟩
set_option maxRecDepth 4000 in
theorem remR_head (x : Int) (q : List Int) (y : Int) (p : List Int) : ∃ y' p', remR (x :: q) (y :: p) = y' :: p' := by
  cases q with
  | nil => exact ⟨_, _, rfl⟩
  | cons x2 q => rw [remR]; split <;> exact ⟨_, _, rfl⟩
set_option maxRecDepth 4000 in
theorem insR_nil (q : List Int) : insR q [] = [] := by
  match q with
  | [] => rfl
  | [x] => rfl
  | x :: x2 :: q => rfl
set_option maxRecDepth 4000 in
theorem remR_nil (q : List Int) : remR q [] = [] := by
  match q with
  | [] => rfl
  | [x] => rfl
  | x :: x2 :: q => rfl
set_option maxRecDepth 4000 in
theorem insR_order : ∀ (q a b : List Int), cmpL (insR q a) (insR q b) = cmpL a b ∧ aboveL (insR q a) (insR q b) = aboveL a b
  | [], a, b => by
    have e : ∀ a, insR [] a = a := fun a => by cases a <;> rfl
    rw [e, e]; exact ⟨rfl, rfl⟩
  | x :: q, [], [] => by rw [insR_nil]; exact ⟨rfl, rfl⟩
  | x :: q, [], z :: b => by
    obtain ⟨z', b', e⟩ := insR_head x q z b
    rw [insR_nil, e]; exact (nil_heads _ _).1
  | x :: q, y :: a, [] => by
    obtain ⟨y', a', e⟩ := insR_head x q y a
    rw [insR_nil, e]; exact (nil_heads _ _).2
  | [x], y :: a, z :: b => by
    rw [insR, insR]
    refine heads _ _ ?_ ?_
    · split <;> split <;> omega
    · split <;> split <;> omega
  | x :: x2 :: q, y :: a, z :: b => by
    have ih := insR_order (x2 :: q) a b
    rw [insR, insR]
    by_cases h1 : x = y
    · by_cases h2 : x = z
      · rw [if_pos h1, if_pos h2]
        subst h1 h2
        rw [cmpL_cons, cmpL_cons, aboveL_cons, aboveL_cons]; exact ih
      · rw [if_pos h1, if_neg h2]
        have e : y ≠ z := by omega
        rw [cmpL_head _ _ e, cmpL_head _ _ e, aboveL_ne _ _ e, aboveL_ne _ _ e]; exact ⟨rfl, rfl⟩
    · by_cases h2 : x = z
      · rw [if_neg h1, if_pos h2]
        have e : y ≠ z := by omega
        rw [cmpL_head _ _ e, cmpL_head _ _ e, aboveL_ne _ _ e, aboveL_ne _ _ e]; exact ⟨rfl, rfl⟩
      · rw [if_neg h1, if_neg h2]; exact ⟨rfl, rfl⟩
set_option maxRecDepth 4000 in
theorem remR_order : ∀ (q a b : List Int), q ≠ [] → (standL q a = 0 ∨ standL q a = 1) → (standL q b = 0 ∨ standL q b = 1) → cmpL (remR q a) (remR q b) = cmpL a b ∧ aboveL (remR q a) (remR q b) = aboveL a b
  | [], _, _ => fun h => absurd rfl h
  | x :: q, [], [] => fun _ _ _ => by rw [remR_nil]; exact ⟨rfl, rfl⟩
  | x :: q, [], z :: b => fun _ _ _ => by
    obtain ⟨z', b', e⟩ := remR_head x q z b
    rw [remR_nil, e]; exact (nil_heads _ _).1
  | x :: q, y :: a, [] => fun _ _ _ => by
    obtain ⟨y', a', e⟩ := remR_head x q y a
    rw [remR_nil, e]; exact (nil_heads _ _).2
  | [x], y :: a, z :: b => fun _ ha hb => by
    have g1 := stand_one x y a
    have g2 := stand_one x z b
    have ha : y < x ∨ x < y := ha.imp g1.1.1 g1.2.1
    have hb : z < x ∨ x < z := hb.imp g2.1.1 g2.2.1
    rw [remR, remR]
    refine heads _ _ ?_ ?_
    · split <;> split <;> omega
    · split <;> split <;> omega
  | x :: x2 :: q, y :: a, z :: b => fun _ ha hb => by
    rw [stand_cons _ _ _ _ (by simp)] at ha hb
    rw [remR, remR]
    by_cases h1 : x = y
    · by_cases h2 : x = z
      · rw [if_pos h1] at ha
        rw [if_pos h2] at hb
        have ih := remR_order (x2 :: q) a b (by simp) ha hb
        rw [if_pos h1, if_pos h2]
        subst h1 h2
        rw [cmpL_cons, cmpL_cons, aboveL_cons, aboveL_cons]; exact ih
      · rw [if_pos h1, if_neg h2]
        have e : y ≠ z := by omega
        rw [cmpL_head _ _ e, cmpL_head _ _ e, aboveL_ne _ _ e, aboveL_ne _ _ e]; exact ⟨rfl, rfl⟩
    · by_cases h2 : x = z
      · rw [if_neg h1, if_pos h2]
        have e : y ≠ z := by omega
        rw [cmpL_head _ _ e, cmpL_head _ _ e, aboveL_ne _ _ e, aboveL_ne _ _ e]; exact ⟨rfl, rfl⟩
      · rw [if_neg h1, if_neg h2]; exact ⟨rfl, rfl⟩
set_option maxRecDepth 4000 in
theorem moveL_told {K pos : Int} {q t p x : List Int} (h : moveL K q t pos p = (x, true)) (hK : K ≠ 5) : moveB K q pos p = (x, true) := by
  unfold moveL at h
  split at h
  · rw [if_neg (fun h => hK h.1)] at h; exact h
  · cases h
set_option maxRecDepth 4000 in
theorem moveB_12 {K pos : Int} {q p : List Int} (hK : K = 1 ∨ K = 2) : moveB K q pos p = moveB K q 0 p := by rcases hK with rfl | rfl <;> rfl
set_option maxRecDepth 4000 in
/-- XpathOrder's. -/
theorem law_order {K pos : Int} {q t a b x y : List Int} (hK : K = 1 ∨ K = 2) (hx : moveL K q t pos a = (x, true)) (hy : moveL K q t pos b = (y, true)) : cmpL x y = cmpL a b ∧ aboveL x y = aboveL a b := by
  have h1 := moveL_told hx (by omega)
  have h2 := moveL_told hy (by omega)
  rw [moveB_12 hK] at h1 h2
  by_cases hq : q = []
  · subst hq
    have e : ∀ p, moveB K [] 0 p = (p, true) := fun p => by unfold moveB; rw [if_pos (show ([] : List Int).length = 0 from rfl)]
    rw [e] at h1 h2
    injection h1 with h1 _
    injection h2 with h2 _
    subst h1 h2
    exact ⟨rfl, rfl⟩
  · rcases hK with rfl | rfl
    · have g1 := insR_is q a hq
      have g2 := insR_is q b hq
      rw [h1] at g1
      rw [h2] at g2
      simp only at g1 g2
      rw [g1, g2]
      exact insR_order q a b
    · obtain ⟨k, hk⟩ : ∃ k, q.length = k + 1 := ⟨q.length - 1, by have := List.length_pos_iff.2 hq; omega⟩
      have s : ∀ p z, moveB 2 q 0 p = (z, true) → standL q p = 0 ∨ standL q p = 1 := fun p z h => by
        rw [rem_is hk] at h
        split at h
        · exact .inl (by assumption)
        · split at h
          · exact .inr (by assumption)
          · cases h
      have g1 := remR_is q a hq (s _ _ h1)
      have g2 := remR_is q b hq (s _ _ h2)
      rw [h1] at g1
      rw [h2] at g2
      simp only at g1 g2
      rw [g1, g2]
      exact remR_order q a b hq (s _ _ h1) (s _ _ h2)
set_option maxRecDepth 4000 in
theorem moveL_no {K pos : Int} {q t p x : List Int} (h : moveL K q t pos p = (x, false)) : x = [] := by
  have key : ∀ K q pos p, (moveB K q pos p).2 = false → (moveB K q pos p).1 = [] := by
    intro K q pos p h
    unfold moveB at *
    repeat' (split at h)
    all_goals (first | cases h | skip)
    all_goals (simp_all [noR])
  unfold moveL at h
  split at h
  · split at h
    · split at h
      · cases h
      · have := key 1 t 0 (moveB 2 q 0 p).1 (by rw [h]); rw [h] at this; exact this
    · have := key K q pos p (by rw [h]); rw [h] at this; exact this
  · injection h with h _; exact h.symm
set_option maxRecDepth 4000 in
theorem moveB_len {K pos : Int} {q p : List Int} : (moveB K q pos p).1.length ≤ p.length := by
  unfold moveB
  repeat' split
  all_goals simp [noR, plusL_len]
set_option maxRecDepth 4000 in
theorem moveL_len {K pos : Int} {q t p : List Int} : (moveL K q t pos p).1.length ≤ p.length + t.length := by
  unfold moveL
  split
  · split
    · split
      · simp; omega
      · have h1 := moveB_len (K := 1) (pos := 0) (q := t) (p := (moveB 2 q 0 p).1)
        have h2 := moveB_len (K := 2) (pos := 0) (q := q) (p := p)
        omega
    · have := moveB_len (K := K) (pos := pos) (q := q) (p := p); omega
  · simp [noR]
set_option maxRecDepth 4000 in
/-- XpathStays's. -/
theorem law_stays {K pos : Int} {q t p : List Int} (hp : smallI p = true) (hq : smallI q = true) (ht : smallI t = true) (hpos : smallN pos = true) (h : (6 ≤ K ∧ K ≤ 9) ∨ (K ≠ 5 ∧ K ≠ 3 ∧ standL q p = 0)) : moveL K q t pos p = (p, true) := by
  rw [moveL_B hp hq ht hpos (by omega)]
  unfold moveB
  split
  · rfl
  · rcases h with h | ⟨h1, h2, h3⟩
    · rw [if_neg (by omega), if_neg (by omega), if_neg (by omega), if_neg (by omega)]
    · simp [h2, h3]

end Go.Proofs.Ytdjajpookmmafaa
