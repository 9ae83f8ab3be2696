/- The order of texts, and lists of properties sorted by their keys: a list of given members has one sorted form. -/
import Derived.Test.YtggbafkeogccjaaLaws
namespace Go.Proofs.Ytggbafkeogccjaa

theorem bl_irrefl : ∀ a : List UInt8, Op.bytesLess a a = false
  | [] => rfl
  | a :: x => by
    rw [Op.bytesLess, bl_irrefl x]
    simp [UInt8.lt_irrefl]
theorem bl_trans : ∀ a b c : List UInt8, Op.bytesLess a b = true → Op.bytesLess b c = true → Op.bytesLess a c = true
  | [], [], _, h, _ => by simp [Op.bytesLess] at h
  | [], _ :: _, [], _, h => by simp [Op.bytesLess] at h
  | [], _ :: _, _ :: _, _, _ => rfl
  | _ :: _, [], _, h, _ => by simp [Op.bytesLess] at h
  | _ :: _, _ :: _, [], _, h => by simp [Op.bytesLess] at h
  | a :: x, b :: y, c :: z, h1, h2 => by
    simp only [Op.bytesLess, Bool.or_eq_true, Bool.and_eq_true, decide_eq_true_iff, beq_iff_eq] at h1 h2 ⊢
    rcases h1 with h1 | ⟨rfl, h1⟩
    · rcases h2 with h2 | ⟨rfl, h2⟩
      · exact Or.inl (UInt8.lt_trans h1 h2)
      · exact Or.inl h1
    · rcases h2 with h2 | ⟨rfl, h2⟩
      · exact Or.inl h2
      · exact Or.inr ⟨rfl, bl_trans x y z h1 h2⟩
theorem bl_total : ∀ a b : List UInt8, Op.bytesLess a b = false → Op.bytesLess b a = false → a = b
  | [], [], _, _ => rfl
  | [], _ :: _, h, _ => by simp [Op.bytesLess] at h
  | _ :: _, [], _, h => by simp [Op.bytesLess] at h
  | a :: x, b :: y, h1, h2 => by
    simp only [Op.bytesLess, Bool.or_eq_false_iff, decide_eq_false_iff_not, Bool.and_eq_false_imp, beq_iff_eq] at h1 h2
    have e : a = b := UInt8.le_antisymm (UInt8.not_lt.1 h2.1) (UInt8.not_lt.1 h1.1)
    subst e
    rw [bl_total x y (h1.2 rfl) (h2.2 rfl)]

/-- One key stands ahead of the other. -/
def ltK (p q : Pr) : Bool := Op.bytesLess p.1.toList q.1.toList
theorem ltK_irrefl (p : Pr) : ltK p p = false := bl_irrefl _
theorem ltK_trans (p q r : Pr) (h1 : ltK p q = true) (h2 : ltK q r = true) : ltK p r = true := bl_trans _ _ _ h1 h2
theorem ltK_total (p q : Pr) (h1 : ltK p q = false) (h2 : ltK q p = false) : p.1 = q.1 := toList_inj (bl_total _ _ h1 h2)
theorem ltK_key {p q r : Pr} (h : p.1 = q.1) : ltK p r = ltK q r ∧ ltK r p = ltK r q := by unfold ltK; rw [h]; exact ⟨rfl, rfl⟩
theorem ltK_ntrans (p q r : Pr) (h1 : ltK p q = false) (h2 : ltK q r = false) : ltK p r = false := by
  cases h : ltK p r
  · rfl
  · cases h3 : ltK q p
    · rw [(ltK_key (ltK_total p q h1 h3)).1, h2] at h
      cases h
    · rw [ltK_trans q p r h3 h] at h2
      cases h2
theorem leB_iff (p q : Pr) : leB p.1 q.1 = true ↔ ltK q p = false := by
  unfold leB
  constructor
  · intro h
    cases h2 : ltK q p
    · rfl
    · simp only [Bool.or_eq_true, beq_iff_eq] at h
      rcases h with h | h
      · have := bl_trans _ _ _ h h2
        rw [bl_irrefl] at this
        cases this
      · unfold ltK at h2
        rw [h, bl_irrefl] at h2
        cases h2
  · intro h
    cases h2 : Op.bytesLess p.1.toList q.1.toList
    · simp only [Bool.false_or, beq_iff_eq]
      exact bl_total _ _ h2 h
    · rfl

/-- The keys rise. -/
def Rising (l : List Pr) : Prop := l.Pairwise fun p q => ltK p q = true
theorem Rising.apart {l : List Pr} (h : Rising l) : Apart l := h.imp fun {p q} hpq e => by
  rw [(ltK_key e).1, ltK_irrefl] at hpq
  cases hpq
theorem rising_unique : ∀ {l m : List Pr}, Rising l → Rising m → (∀ p, p ∈ l ↔ p ∈ m) → l = m
  | [], [], _, _, _ => rfl
  | [], b :: s, _, _, h => by have := (h b).2 (by simp); simp at this
  | a :: r, [], _, _, h => by have := (h a).1 (by simp); simp at this
  | a :: r, b :: s, h1, h2, h => by
    obtain ⟨a1, a2⟩ := List.pairwise_cons.1 h1
    obtain ⟨b1, b2⟩ := List.pairwise_cons.1 h2
    have no : ∀ {p q : Pr}, ltK p q = true → ltK q p = true → False := fun {p q} x y => by
      have := ltK_trans p q p x y
      rw [ltK_irrefl] at this
      cases this
    have hab : a = b := by
      rcases List.mem_cons.1 ((h a).1 (by simp)) with e | ha
      · exact e
      · rcases List.mem_cons.1 ((h b).2 (by simp)) with e | hb
        · exact e.symm
        · exact (no (a1 b hb) (b1 a ha)).elim
    subst hab
    rw [rising_unique a2 b2 fun p => ⟨fun hp => by
      rcases List.mem_cons.1 ((h p).1 (by simp [hp])) with e | hp'
      · subst e; exact (no (a1 p hp) (a1 p hp)).elim
      · exact hp', fun hp => by
      rcases List.mem_cons.1 ((h p).2 (by simp [hp])) with e | hp'
      · subst e; exact (no (b1 p hp) (b1 p hp)).elim
      · exact hp'⟩]

/-- The sorted form. -/
def srt (l : List Pr) : List Pr := l.mergeSort fun p q => !ltK q p
theorem srt_perm (l : List Pr) : (srt l).Perm l := List.mergeSort_perm _ _
theorem srt_mem (l : List Pr) (p : Pr) : p ∈ srt l ↔ p ∈ l := (srt_perm l).mem_iff
theorem srt_length (l : List Pr) : (srt l).length = l.length := (srt_perm l).length_eq
theorem srt_rising (l : List Pr) (h : Apart l) : Rising (srt l) := by
  have h1 : (srt l).Pairwise fun p q => (!ltK q p) = true := by
    unfold srt
    refine List.pairwise_mergeSort (fun a b c h1 h2 => ?_) (fun a b => ?_) l
    · simp only [Bool.not_eq_true'] at h1 h2 ⊢
      exact ltK_ntrans c b a h2 h1
    · cases h : ltK b a
      · rfl
      · cases h2 : ltK a b
        · rfl
        · have := ltK_trans a b a h2 h
          rw [ltK_irrefl] at this
          cases this
  have h2 : Apart (srt l) := ((srt_perm l).pairwise_iff (fun {a b} hab => Ne.symm hab)).2 h
  refine (h1.and h2).imp fun {p q} ⟨x, y⟩ => ?_
  cases hpq : ltK p q
  · exact absurd (ltK_total p q hpq (by simpa using x)) y
  · rfl
theorem srt_of {l m : List Pr} (h : Rising m) (hp : m.Perm l) : m = srt l :=
  rising_unique h (srt_rising l ((hp.pairwise_iff (R := fun p q : Pr => p.1 ≠ q.1) (fun {a b} hab => Ne.symm hab)).1 h.apart)) fun p => (hp.mem_iff).trans (srt_mem l p).symm
theorem srt_self {l : List Pr} (h : Rising l) : srt l = l := (srt_of h (List.Perm.refl l)).symm

theorem step_zero (l : List Pr) (h : chk l = 0) : l.length ≤ 16 ∧ ∀ k, k < l.length → stepE l k = 0 := by
  unfold chk at h
  by_cases h16 : 16 < l.length
  · rw [if_pos h16] at h; cases h
  · rw [if_neg h16] at h
    refine ⟨by omega, fun k => ?_⟩
    induction k using Nat.strongRecOn with
    | ind k ih =>
      intro hk
      cases e : stepE l k != 0
      · simpa using e
      · have := firstE_at l k hk (fun j hj => ih j hj (by omega)) (by simpa using e)
        rw [h] at this
        exact this.symm
theorem stepE_zero {l : List Pr} {k : Nat} (h : stepE l k = 0) : keyB (prAt l k).1 = true ∧ valB (prAt l k).2 = true ∧ (0 < k → leB (prAt l k).1 (prAt l (k - 1)).1 = false) := by
  unfold stepE at h
  by_cases h1 : (keyB (prAt l k).1 && valB (prAt l k).2) = false
  · rw [if_pos h1] at h; cases h
  · rw [if_neg h1] at h
    by_cases h2 : (decide (0 < k) && leB (prAt l k).1 (prAt l (k - 1)).1) = true
    · rw [if_pos h2] at h; cases h
    · simp only [Bool.and_eq_false_imp, Bool.not_eq_false, Classical.not_imp, Bool.and_eq_true, decide_eq_true_iff] at h1 h2
      refine ⟨h1.1, by simpa using h1.2, fun hk => ?_⟩
      cases h3 : leB (prAt l k).1 (prAt l (k - 1)).1
      · rfl
      · exact absurd ⟨hk, h3⟩ h2
/-- What may be: at most 16, keys and values that are such, the keys rising. -/
theorem chk_zero (l : List Pr) : chk l = 0 ↔ l.length ≤ 16 ∧ (∀ p ∈ l, keyB p.1 = true ∧ valB p.2 = true) ∧ Rising l := by
  constructor
  · intro h
    obtain ⟨h16, hs⟩ := step_zero l h
    refine ⟨h16, fun p hp => ?_, ?_⟩
    · obtain ⟨j, hj, rfl⟩ := List.mem_iff_getElem.1 hp
      have := stepE_zero (hs j hj)
      rw [prAt_eq l j hj] at this
      exact ⟨this.1, this.2.1⟩
    · have step : ∀ k (hk : k + 1 < l.length), ltK (l[k]'(by omega)) l[k + 1] = true := by
        intro k hk
        have := (stepE_zero (hs (k + 1) hk)).2.2 (by omega)
        rw [prAt_eq l (k + 1) hk, Nat.add_sub_cancel, prAt_eq l k (by omega)] at this
        cases h2 : ltK (l[k]'(by omega)) l[k + 1]
        · rw [(leB_iff _ _).2 h2] at this; cases this
        · rfl
      unfold Rising
      rw [List.pairwise_iff_getElem]
      intro i j hi hj hij
      obtain ⟨d, rfl⟩ : ∃ d, j = i + 1 + d := ⟨j - i - 1, by omega⟩
      clear hij
      induction d with
      | zero => exact step i hj
      | succ d ih => exact ltK_trans _ _ _ (ih (by omega)) (step (i + 1 + d) hj)
  · rintro ⟨h16, hk, hr⟩
    unfold chk
    rw [if_neg (by omega)]
    refine firstE_none l fun j hj => ?_
    unfold stepE
    have hm := hk _ (List.getElem_mem hj)
    rw [prAt_eq l j hj, hm.1, hm.2]
    rw [if_neg (by simp), if_neg]
    simp only [Bool.and_eq_true, decide_eq_true_iff, not_and]
    intro h0 h1
    rw [prAt_eq l (j - 1) (by omega)] at h1
    have h2 := List.pairwise_iff_getElem.1 hr (j - 1) j (by omega) hj (by omega)
    rw [(leB_iff _ _).1 h1] at h2
    cases h2
theorem fit_of_chk {l : List Pr} (h : chk l = 0) : Fit l := by
  obtain ⟨h1, h2, _⟩ := (chk_zero l).1 h
  refine ⟨by omega, fun p hp => ?_⟩
  have := h2 p hp
  unfold keyB valB at this
  simp only [Bool.and_eq_true, decide_eq_true_iff] at this
  omega
theorem apart_of_chk {l : List Pr} (h : chk l = 0) : Apart l := ((chk_zero l).1 h).2.2.apart

end Go.Proofs.Ytggbafkeogccjaa
