/- sorted hands back a map's entries, in new memory, in the rising order of their keys. -/
import Derived.Test.YtggbafkeogccjaaSort
import Derived.Sort.OwnSorted
namespace Go.Proofs.Ytggbafkeogccjaa
open Go.RowKit Go.WideMaps Go.Maps Go.Sort

theorem keyOf9 {key : Value} {z : Lit} (h : keyOf Try.prog 9 key = some z) : ∃ s : ByteArray, key = .string s ∧ z = kl s ∧ s.size ≤ maxLen := by
  cases key <;> simp [keyOf, Try.underlying9, mapKey] at h
  rename_i s
  obtain ⟨hs, rfl⟩ := h
  exact ⟨s, rfl, rfl, hs⟩
theorem key_shape {key : Value} {z : Lit} (h : keyOf Try.prog 9 key = some z) : ∃ s : ByteArray, key = Value.string s := let ⟨s, h, _⟩ := keyOf9 h; ⟨s, h⟩
theorem elem_shape {v : Value} {z : DataW Unit × List MemPlace} (h : plainElem Try.prog 9 v = some z) : ∃ s : ByteArray, v = Value.string s := let ⟨s, h, _⟩ := plainElem_string_inv Try.underlying9 h; ⟨s, h⟩

/-- ss: the entries of l that are no longer to come. -/
def Coll (l : List Pr) (left : Lit → Bool) (ss : List Pr) : Prop := Apart ss ∧ ∀ p, p ∈ ss ↔ p ∈ l ∧ left (kl p.1) = false

theorem Coll.start {D : DataW Unit} {l : List Pr} (h : MapIs D l) : Coll l (Maps.has D) [] := ⟨List.Pairwise.nil, fun p => by
  constructor
  · intro h; cases h
  · rintro ⟨h1, h2⟩
    rw [h.1, getF_of_mem h.2.2.2 h1] at h2
    cases h2⟩
theorem Coll.step {D : DataW Unit} {l ss : List Pr} {left : Lit → Bool} {x c : ByteArray} (h : MapIs D l) (hC : Coll l left ss) (hl : left (kl x) = true) (hat : ∀ zd, D.atKey (kl x) zd = .lit (.string c.data.toList)) :
    Coll l (fun z => left z && !z.sameKey (kl x)) (ss ++ [(x, c)]) := by
  have hh : (getF l x).isSome = true := by rw [← h.1]; exact has_true_of_atKey hat
  obtain ⟨p, hp⟩ := Option.isSome_iff_exists.1 hh
  obtain ⟨hm, hx⟩ := getF_eq l x p hp
  have hc : p = (x, c) := by
    have := hat .nil
    rw [h.2.1 x p _ hp] at this
    simp only [DataW.lit.injEq, Lit.string.injEq] at this
    exact Prod.ext hx (ByteArray.ext (Array.toList_inj.1 this))
  subst hc
  refine ⟨?_, fun q => ?_⟩
  · unfold Apart
    rw [List.pairwise_append]
    refine ⟨hC.1, List.pairwise_singleton _ _, fun a ha b hb e => ?_⟩
    simp at hb
    subst hb
    have := ((hC.2 a).1 ha).2
    rw [e, hl] at this
    cases this
  · rw [List.mem_append, hC.2]
    by_cases e : q.1 = x
    · have hs : (kl q.1).sameKey (kl x) = true := by rw [e]; exact WideAt.sameKey_self (isKey_kl x)
      simp only [hs, Bool.not_true, Bool.and_false]
      constructor
      · rintro (h1 | h1)
        · exact ⟨h1.1, trivial⟩
        · simp at h1; subst h1; exact ⟨hm, trivial⟩
      · rintro ⟨h1, _⟩
        have := getF_of_mem h.2.2.2 h1
        rw [e, hp] at this
        cases this
        exact Or.inr (by simp)
    · have hs : (kl q.1).sameKey (kl x) = false := sameKey_ne fun e' => e (kl_inj e')
      simp only [hs, Bool.not_false, Bool.and_true]
      constructor
      · rintro (h1 | h1)
        · exact h1
        · simp at h1; subst h1; exact absurd rfl e
      · exact Or.inl
theorem Coll.perm {D : DataW Unit} {l ss : List Pr} {left : Lit → Bool} (h : MapIs D l) (hC : Coll l left ss) (hl : ∀ z, left z = false) : srt ss = srt l :=
  rising_unique (srt_rising _ hC.1) (srt_rising _ h.2.2.2) fun p => by rw [srt_mem, srt_mem, hC.2, hl]; simp
theorem Coll.len {D : DataW Unit} {l ss : List Pr} {left : Lit → Bool} (h : MapIs D l) (hC : Coll l left ss) (hl : ∀ z, left z = false) : ss.length = l.length := by
  rw [← srt_length, hC.perm h hl, srt_length]

theorem info36 : (Try.prog.info? 36).map (fun i => (i.zero, i.size, i.bytes)) = some (some (.agg #[.string ByteArray.empty, .string ByteArray.empty]), 2, 32) := by kernel_rfl

/-- The slice v is the call's own, of the properties l. -/
def OwnP (w : World) (base : Nat) (v : Value) (l : List Pr) : Prop := ∃ A cap, v = .slice A l.length cap ∧ w.ownsRow base 36 2 v l.length (flat l)

set_option maxRecDepth 100000 in
set_option maxHeartbeats 2000000 in
theorem sorted_any (b : Nat) (l : List Pr) (w : World) (hM : OwnM w b l) (hA : Apart l) (h60 : l.length ≤ 200) :
    Calls Try.prog 29 #[.map (some b)] w fun e w' => ∃ v, e = .returned v ∧ OwnP w' w.heap.size v (srt l) ∧ Below w.heap.size w w' := by
  obtain ⟨i0, hi, hz0, hz1, hz2⟩ := info_parts info36
  have hbl := hM.lt
  obtain ⟨D, hown, hIs⟩ := hM
  have HIs := hd hIs
  have HA := hd hA
  have HS := hd hIs.2.2.1
  clear hIs hA
  have hM2 : Hid (OwnM w b l) := hd ⟨D, hown, HIs.out⟩
  go_enter Try.func29, Try.ntmps29
  go_wp2_with (first
    | (at_len; refine wpList_len_M _ rfl _ rfl b l rfl hM2.out ?_)
    | (at_make; refine wpList_make_own _ rfl _ _ 22 rfl w.heap.size 36 i0 _ 2 Try.underlying22 hi hz0 hz1 _ _ _ l.length rfl rfl rfl (by rw [hz2]; omega) (by unfold maxLen; omega) (Nat.le_refl _) ?_; intro w1 hrow1 hg1)
    | (at_range; refine wpList_range_own _ rfl _ 42 rfl 9 9 law9 Try.underlying42 _ b l.length _ rfl (hown.kept hg1 (by simp)) ?_; intro w0 hrg0 hg0 hs0))
  go_frame
  go_loopw [3] (fun v wr => ∃ (left : Lit → Bool) (cnt : Nat) (ss : List Pr), wr.ranges Try.prog 9 (plainElem Try.prog 9) b w1.heap.size l.length D left cnt ∧ ss.length + cnt ≤ 200 ∧
      wr.ownsRow w.heap.size 36 2 v ss.length (flat ss) ∧ v ≠ .slice none 0 0 ∧ Hid (Coll l left ss) ∧ Below w.heap.size w wr)
    (fun _ wr => wr.rangeLeft b w1.heap.size)
  case atStart =>
    exact ⟨_, _, [], hrg0, by rw [HS.out]; simpa using h60, hrow1.kept hg0 (Or.inr (by simp [Value.ownBlock])), by simp, Coll.start HIs.out,
      ((Below.refl _ _).grown hg1 (Nat.le_refl _) (fun j hj => by cases hj)).grown hg0 hg1.size (fun j hj => by cases hj)⟩
  case round =>
    obtain ⟨left, cnt, ss, hrg, hcs, hrow, hnn, hC, hnx⟩ := hrel
    go_wp2_with (first
      | (at_next; refine wpList_next_ranges _ rfl _ rfl 9 law9 (plainElem Try.prog 9) Value.string Value.string (fun key kl hk => key_shape hk) (fun v y hv => elem_shape hv) b w1.heap.size l.length _ _ _ rfl hrg ?_ ?_))
    · intro hc0 hl0
      rcases hrow.2 with ⟨hnil, _⟩ | ⟨g, cap, cur, rfl, hbase, hb, h1, h2, h3, h4⟩
      · exact absurd hnil hnn
      have hperm := hd (hC.out.perm HIs.out hl0)
      have hlen := hd (hC.out.len HIs.out hl0)
      have hc := hd (sort_any g cap ss wr (holdsK_of_block hb h4) (Array.getElem?_eq_some_iff.1 hb).1 (by omega) hC.out.1)
      have hfin := fun nn os => hd (ownsRow_sortedK (n := nn) (os := os) (ts := srt ss) (srt_length ss) hbase hb h1 h2 h3)
      clear hl0 hb h4
      go_wp2_with (go_at_call 35; refine hc.out.mono ?_; rintro e w' ⟨rfl, nn, os, rfl⟩)
      go_ret
      have hOP : OwnP (sortWorldK encP 2 wr g 0 nn (srt ss).toArray os) w.heap.size (.slice (some ⟨g, 0, none⟩) ss.length cap) (srt l) :=
        ⟨some ⟨g, 0, none⟩, cap, by rw [srt_length, ← hlen.out], by rw [srt_length, ← hlen.out, ← hperm.out]; exact (hfin nn os).out⟩
      exact ⟨_, rfl, hOP, hnx.grown (grownBy_sortedK _) hnx.size (fun j hj => by cases hj; exact hbase)⟩
    · intro x c kl yd yp w2 cnt2 hkey hlk hv hat hrg2 hlt hg2 hs2 hen
      obtain ⟨x', ex, rfl, hxs⟩ := keyOf9 hkey
      obtain rfl : x = x' := by injection ex
      obtain ⟨c', ec, hyd, hcs'⟩ := plainElem_string_inv Try.underlying9 hv
      obtain rfl : c = c' := by injection ec
      have hyd := congrArg Prod.fst hyd
      dsimp only at hyd
      subst hyd
      have hC2 := hd (Coll.step HIs.out hC.out hlk hat)
      have hrow2 := hrow.kept hg2 (Or.inr (row_ne_iter hrow hrg).symm)
      have HX := hd hat
      clear hs2 ex ec hv hkey hat hlk
      go_wp2_with (first
        | (at_builtin; refine wpList_append_own _ rfl _ _ 22 rfl w.heap.size 36 i0 _ 2 32 Try.underlying22 hi hz0 hz1 hz2 rfl (by decide) _ _ _ rfl (hrow2.alloc _) ⟨w2.heap.size, 0, none⟩ 1 1 [.string x, .string c] rfl rfl (cell_two_new _ _ _ _) (by simp [Value.oneCell']) (by unfold maxLen at *; omega) (by omega) (by have := hnx.size; have := hg2.size; simp; omega) ?_; intro v' w3 hown' hg3 hnil3; go_frame))
      have hrg3 := (hrg2.alloc (.cells #[.string x, .string c] 36)).kept hg3 (row_ne_low hrow2 hbl) (row_ne_iter hrow2 hrg2)
      have hrow3 : w3.ownsRow w.heap.size 36 2 v' (ss ++ [(x, c)]).length (flat (ss ++ [(x, c)])) := by
        rw [flat_append, List.length_append]; exact hown'
      have hb3 := ((hnx.grown hg2 hnx.size (fun j hj => by cases hj; exact hg1.size)).alloc (by have := hnx.size; have := hg2.size; omega) (.cells #[.string x, .string c] 36)).grown hg3 (by have := hnx.size; have := hg2.size; simp; omega) (fun j hj => (hrow2.lt j hj).1)
      go_roundw
      case rel => exact ⟨_, cnt2, ss ++ [(x, c)], hrg3, by simp; omega, hrow3, fun hv' => by have := (hnil3.1 hv').2; omega, hC2, hb3⟩
      case measure => rw [hrg3.left_eq, hrg.left_eq]; exact hlt

end Go.Proofs.Ytggbafkeogccjaa
