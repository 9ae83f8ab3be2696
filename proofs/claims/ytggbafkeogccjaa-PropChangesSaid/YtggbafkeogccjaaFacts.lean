/- What follows of the plain answers: what was patched is patched back; what differs changes one list into the other. -/
import Derived.Test.YtggbafkeogccjaaPatch
namespace Go.Proofs.Ytggbafkeogccjaa

theorem Apart.nodup {l : List Pr} (h : Apart l) : l.Nodup := h.imp fun {p q} hpq e => hpq (by rw [e])
theorem len_eq {r s : List Pr} (hr : Apart r) (hs : Apart s) (h : ∀ p, p ∈ r ↔ p ∈ s) : r.length = s.length :=
  ((List.perm_ext_iff_of_nodup hr.nodup hs.nodup).2 h).length_eq
theorem srt_is {r l : List Pr} (hr : Apart r) (hl : Rising l) (h : ∀ p, p ∈ r ↔ p ∈ l) : srt r = l :=
  rising_unique (srt_rising r hr) hl fun p => (srt_mem r p).trans (h p)
theorem same_key {l : List Pr} (hl : Apart l) {p q : Pr} (hp : p ∈ l) (hq : q ∈ l) (e : p.1 = q.1) : p = q := by
  have h1 := getF_of_mem hl hp
  have h2 := getF_of_mem hl hq
  rw [e, h2] at h1
  exact (Option.some.inj h1).symm
theorem getB_iff {l : List Pr} {k : ByteArray} : getB l k = true ↔ ∃ p ∈ l, p.1 = k := by
  cases h : getB l k
  · have := getF_none.1 (none_of_getB h)
    simp only [Bool.false_eq_true, false_iff]
    rintro ⟨p, hp, e⟩
    exact this p hp e
  · simp only [true_iff]
    unfold getB at h
    obtain ⟨p, hp⟩ := Option.isSome_iff_exists.1 h
    exact ⟨p, getF_eq l k p hp⟩

theorem chk_minus {l : List Pr} (h : chk l = 0) (m : List Pr) : chk (minus l m) = 0 := by
  obtain ⟨h1, h2, h3⟩ := (chk_zero l).1 h
  exact (chk_zero _).2 ⟨Nat.le_trans (minus_len l m) h1, fun p hp => h2 p ((minus_mem l m p).1 hp).1, rising_minus h3 m⟩
theorem chk_nil : chk [] = 0 := rfl

/-- What is asked of lists that can be patched. -/
structure Can (l old new : List Pr) : Prop where
  l0 : chk l = 0
  o0 : chk old = 0
  n0 : chk new = 0
  among : ∀ p ∈ old, p ∈ l
  free : ∀ p ∈ minus l old, ∀ q ∈ new, p.1 ≠ q.1
  room : (minus l old).length + new.length ≤ 16

theorem can_of {l old new : List Pr} (h : chk3 l old new = 0) (h0 : patchE l old new = 0) : Can l old new := by
  unfold chk3 chk2 at h
  have e1 : chk l = 0 := by
    by_cases e : chk l = 0
    · exact e
    · rw [if_neg e] at h; exact absurd h e
  rw [if_pos e1] at h
  have e2 : chk old = 0 := by
    by_cases e : chk old = 0
    · exact e
    · rw [if_neg e] at h; exact absurd h e
  rw [if_pos e2] at h
  unfold patchE at h0
  cases hs : strange l old
  · cases hc : clash (minus l old) new
    · rw [hs, hc, if_neg (by simp), if_neg (by simp)] at h0
      refine ⟨e1, e2, h, fun p hp => ?_, fun p hp q hq e => ?_, ?_⟩
      · unfold strange at hs
        rw [List.any_eq_false] at hs
        exact (hasB_iff l p).1 (by simpa using hs p hp)
      · unfold clash at hc
        rw [List.any_eq_false] at hc
        exact hc q hq (getB_iff.2 ⟨p, hp, e⟩)
      · by_cases e : 16 < (minus l old).length + new.length
        · rw [if_pos e] at h0; cases h0
        · omega
    · rw [hs, hc, if_neg (by simp), if_pos rfl] at h0; cases h0
  · rw [hs, if_pos rfl] at h0; cases h0
theorem Can.chk3 {l old new : List Pr} (h : Can l old new) : chk3 l old new = 0 := by
  unfold Ytggbafkeogccjaa.chk3 chk2
  rw [if_pos h.l0, if_pos h.o0]; exact h.n0
theorem Can.zero {l old new : List Pr} (h : Can l old new) : patchE l old new = 0 := by
  unfold patchE
  have hs : strange l old = false := by
    unfold strange
    rw [List.any_eq_false]
    intro p hp
    rw [(hasB_iff l p).2 (h.among p hp)]; simp
  have hc : clash (minus l old) new = false := by
    unfold clash
    rw [List.any_eq_false]
    intro q hq hb
    obtain ⟨p, hp, e⟩ := getB_iff.1 hb
    exact h.free p hp q hq e
  rw [hs, hc, if_neg (by simp), if_neg (by simp), if_neg (by have := h.room; omega)]
theorem Can.apart {l old new : List Pr} (h : Can l old new) : Apart (minus l old ++ new) := by
  unfold Apart
  rw [List.pairwise_append]
  exact ⟨minus_apart (apart_of_chk h.l0) old, apart_of_chk h.n0, fun p hp q hq => h.free p hp q hq⟩
theorem Can.mem {l old new : List Pr} (_ : Can l old new) (p : Pr) : p ∈ patchL l old new ↔ (p ∈ l ∧ p ∉ old) ∨ p ∈ new := by
  unfold patchL
  rw [srt_mem, List.mem_append, minus_mem]
theorem Can.may {l old new : List Pr} (h : Can l old new) : chk (patchL l old new) = 0 := by
  refine (chk_zero _).2 ⟨?_, fun p hp => ?_, srt_rising _ h.apart⟩
  · unfold patchL
    rw [srt_length, List.length_append]
    exact h.room
  · rcases (h.mem p).1 hp with hp | hp
    · exact ((chk_zero l).1 h.l0).2.1 p hp.1
    · exact ((chk_zero new).1 h.n0).2.1 p hp
/-- Patched back by the same lists changed round. -/
theorem Can.back {l old new : List Pr} (h : Can l old new) : Can (patchL l old new) new old ∧ patchL (patchL l old new) new old = l := by
  have hl := apart_of_chk h.l0
  have ho := apart_of_chk h.o0
  have hm : ∀ p, p ∈ minus (patchL l old new) new ↔ p ∈ minus l old := by
    intro p
    rw [minus_mem, h.mem, minus_mem]
    constructor
    · rintro ⟨h1 | h1, h2⟩
      · exact h1
      · exact absurd h1 h2
    · intro h1
      exact ⟨Or.inl h1, fun h2 => h.free p ((minus_mem l old p).2 h1) p h2 rfl⟩
  have hsplit : Apart (minus l old ++ old) := by
    unfold Apart
    rw [List.pairwise_append]
    refine ⟨minus_apart hl old, ho, fun p hp q hq e => ?_⟩
    obtain ⟨h1, h2⟩ := (minus_mem l old p).1 hp
    exact h2 (by rw [same_key hl h1 (h.among q hq) e]; exact hq)
  have hall : ∀ p, p ∈ minus l old ++ old ↔ p ∈ l := by
    intro p
    rw [List.mem_append, minus_mem]
    constructor
    · rintro (h1 | h1)
      · exact h1.1
      · exact h.among p h1
    · intro h1
      by_cases h2 : p ∈ old
      · exact Or.inr h2
      · exact Or.inl ⟨h1, h2⟩
  have hlen := len_eq (minus_apart (apart_of_chk h.may) new) (minus_apart hl old) hm
  have hlen2 := len_eq hsplit hl hall
  rw [List.length_append] at hlen2
  have hc : Can (patchL l old new) new old := {
    l0 := h.may
    o0 := h.n0
    n0 := h.o0
    among := fun p hp => (h.mem p).2 (Or.inr hp)
    free := fun p hp q hq e => by
      obtain ⟨h1, h2⟩ := (minus_mem l old p).1 ((hm p).1 hp)
      exact h2 (by rw [same_key hl h1 (h.among q hq) e]; exact hq)
    room := by
      have := ((chk_zero l).1 h.l0).1
      omega }
  refine ⟨hc, rising_unique (srt_rising _ hc.apart) ((chk_zero l).1 h.l0).2.2 fun p => ?_⟩
  show p ∈ patchL (patchL l old new) new old ↔ p ∈ l
  rw [hc.mem, h.mem]
  constructor
  · rintro (⟨h1 | h1, h2⟩ | h1)
    · exact h1.1
    · exact absurd h1 h2
    · exact h.among p h1
  · intro h1
    by_cases h2 : p ∈ old
    · exact Or.inr h2
    · exact Or.inl ⟨Or.inl ⟨h1, h2⟩, fun h3 => h.free p ((minus_mem l old p).2 ⟨h1, h2⟩) p h3 rfl⟩

/-- What differs changes the one list into the other. -/
theorem can_diff {a b : List Pr} (ha : chk a = 0) (hb : chk b = 0) : Can a (minus a b) (minus b a) ∧ patchL a (minus a b) (minus b a) = b := by
  have hA := apart_of_chk ha
  have hB := apart_of_chk hb
  have hm : ∀ p, p ∈ minus a (minus a b) ↔ p ∈ a ∧ p ∈ b := by
    intro p
    rw [minus_mem, minus_mem]
    constructor
    · rintro ⟨h1, h2⟩
      refine ⟨h1, ?_⟩
      cases h : hasB b p
      · exact absurd ⟨h1, fun h3 => by rw [(hasB_iff b p).2 h3] at h; cases h⟩ h2
      · exact (hasB_iff b p).1 h
    · rintro ⟨h1, h2⟩
      exact ⟨h1, fun h3 => h3.2 h2⟩
  have hap : Apart (minus a (minus a b) ++ minus b a) := by
    unfold Apart
    rw [List.pairwise_append]
    refine ⟨minus_apart hA _, minus_apart hB _, fun p hp q hq e => ?_⟩
    have h1 := (hm p).1 hp
    have h2 := (minus_mem b a q).1 hq
    have := same_key hB h1.2 h2.1 e
    subst this
    exact h2.2 h1.1
  have hall : ∀ p, p ∈ minus a (minus a b) ++ minus b a ↔ p ∈ b := by
    intro p
    rw [List.mem_append, hm, minus_mem]
    constructor
    · rintro (h1 | h1)
      · exact h1.2
      · exact h1.1
    · intro h1
      by_cases h2 : p ∈ a
      · exact Or.inl ⟨h2, h1⟩
      · exact Or.inr ⟨h1, h2⟩
  have hlen := len_eq hap hB hall
  rw [List.length_append] at hlen
  refine ⟨{ l0 := ha, o0 := chk_minus ha b, n0 := chk_minus hb a, among := fun p hp => ((minus_mem a b p).1 hp).1, free := fun p hp q hq e => ?_, room := by have := ((chk_zero b).1 hb).1; omega }, srt_is hap ((chk_zero b).1 hb).2.2 hall⟩
  exact (List.pairwise_append.1 hap).2.2 p hp q hq e

/-- Of lists that are the same nothing differs, and the other way round. -/
theorem none_differs {a b : List Pr} (ha : chk a = 0) (hb : chk b = 0) : decide (a = b) = decide ((minus a b).length + (minus b a).length = 0) := by
  rw [Bool.eq_iff_iff, decide_eq_true_iff, decide_eq_true_iff]
  have hz : ∀ l m : List Pr, (minus l m).length = 0 ↔ ∀ p ∈ l, p ∈ m := by
    intro l m
    rw [List.length_eq_zero_iff]
    constructor
    · intro h p hp
      cases hh : hasB m p
      · have : p ∈ minus l m := (minus_mem l m p).2 ⟨hp, fun h3 => by rw [(hasB_iff m p).2 h3] at hh; cases hh⟩
        rw [h] at this; cases this
      · exact (hasB_iff m p).1 hh
    · intro h
      cases hm : minus l m with
      | nil => rfl
      | cons p r =>
        have : p ∈ minus l m := by rw [hm]; simp
        obtain ⟨h1, h2⟩ := (minus_mem l m p).1 this
        exact absurd (h p h1) h2
  constructor
  · rintro rfl
    have := (hz a a).2 fun p hp => hp
    omega
  · intro h
    have h1 := (hz a b).1 (by omega)
    have h2 := (hz b a).1 (by omega)
    exact rising_unique ((chk_zero a).1 ha).2.2 ((chk_zero b).1 hb).2.2 fun p => ⟨h1 p, h2 p⟩
/-- With nothing to change a list stays. -/
theorem can_none {l : List Pr} (h : chk l = 0) : Can l [] [] ∧ patchL l [] [] = l := by
  refine ⟨{ l0 := h, o0 := rfl, n0 := rfl, among := fun p hp => absurd hp (List.not_mem_nil), free := fun p hp q hq => absurd hq (List.not_mem_nil), room := by rw [minus_nil]; have := ((chk_zero l).1 h).1; simpa using this }, ?_⟩
  unfold patchL
  rw [minus_nil, List.append_nil]
  exact srt_self ((chk_zero l).1 h).2.2

/-- Behind a patch a key has what new says, or nothing, if old alone has it, or what it had. -/
theorem Can.key {l old new : List Pr} (h : Can l old new) (k : ByteArray) : getF (patchL l old new) k = if getB new k = true then getF new k else if getB old k = true then none else getF l k := by
  have hl := apart_of_chk h.l0
  have hn := apart_of_chk h.n0
  have hp : Apart (patchL l old new) := apart_of_chk h.may
  by_cases h1 : getB new k = true
  · rw [if_pos h1]
    obtain ⟨p, hpn, rfl⟩ := getB_iff.1 h1
    rw [getF_of_mem hn hpn, getF_of_mem hp ((h.mem p).2 (Or.inr hpn))]
  · rw [if_neg h1]
    by_cases h2 : getB old k = true
    · rw [if_pos h2]
      obtain ⟨q, hqo, rfl⟩ := getB_iff.1 h2
      rw [getF_none]
      intro p hpp e
      rcases (h.mem p).1 hpp with hh | hh
      · exact hh.2 (by rw [same_key hl hh.1 (h.among q hqo) e]; exact hqo)
      · exact h1 (getB_iff.2 ⟨p, hh, e⟩)
    · rw [if_neg h2]
      cases hf : getF l k with
      | none =>
        rw [getF_none] at hf ⊢
        intro p hpp e
        rcases (h.mem p).1 hpp with hh | hh
        · exact hf p hh.1 e
        · exact h1 (getB_iff.2 ⟨p, hh, e⟩)
      | some p =>
        obtain ⟨h3, rfl⟩ := getF_eq l k p hf
        exact getF_of_mem hp ((h.mem p).2 (Or.inl ⟨h3, fun h4 => h2 (getB_iff.2 ⟨p, h4, rfl⟩)⟩))

end Go.Proofs.Ytggbafkeogccjaa
