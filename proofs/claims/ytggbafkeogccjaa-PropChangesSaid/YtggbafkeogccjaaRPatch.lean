/- The document's Patch answers as the program's does. -/
import Derived.Test.YtggbafkeogccjaaRDiff
namespace Go.Proofs.Ytggbafkeogccjaa
open Go.RowKit

def fold (a new : List Pr) : List Pr := new.foldl (fun acc p => ins p acc) a
theorem fold_snoc (a m : List Pr) (p : Pr) : fold a (m ++ [p]) = ins p (fold a m) := by unfold fold; rw [List.foldl_append]; rfl
theorem fold_length (a : List Pr) : ∀ m : List Pr, (fold a m).length = a.length + m.length := by
  intro m
  induction m generalizing a with
  | nil => rfl
  | cons p r ih =>
    show (fold (ins p a) r).length = _
    rw [ih, ins_length, List.length_cons]; omega
theorem fold_is : ∀ (m a : List Pr), Rising a → Apart (a ++ m) → Rising (fold a m) ∧ ∀ q, q ∈ fold a m ↔ q ∈ a ∨ q ∈ m
  | [], a, h, _ => ⟨h, fun q => by simp [fold]⟩
  | p :: r, a, h, hA => by
    have hA' := List.pairwise_append.1 hA
    have hp : ∀ x ∈ a, x.1 ≠ p.1 := fun x hx => hA'.2.2 x hx p (by simp)
    have hmem := ins_mem p
    have hA2 : Apart (ins p a ++ r) := by
      unfold Apart
      rw [List.pairwise_append]
      refine ⟨(ins_rising p a h hp).apart, (List.pairwise_cons.1 hA'.2.1).2, fun x hx y hy => ?_⟩
      rcases (hmem x a).1 hx with rfl | hx
      · exact (List.pairwise_cons.1 hA'.2.1).1 y hy
      · exact hA'.2.2 x hx y (by simp [hy])
    obtain ⟨h1, h2⟩ := fold_is r (ins p a) (ins_rising p a h hp) hA2
    refine ⟨h1, fun q => ?_⟩
    show q ∈ fold (ins p a) r ↔ _
    rw [h2, hmem, List.mem_cons]
    constructor
    · rintro ((h | h) | h)
      · exact Or.inr (Or.inl h)
      · exact Or.inl h
      · exact Or.inr (Or.inr h)
    · rintro (h | h | h)
      · exact Or.inl (Or.inr h)
      · exact Or.inl (Or.inl h)
      · exact Or.inr h
theorem fold_patch {l old new : List Pr} (hl : chk l = 0) (hn : chk new = 0) (h : clash (minus l old) new = false) : fold (minus l old) new = patchL l old new := by
  have hA := apart_new (minus_apart (apart_of_chk hl) old) (apart_of_chk hn) h
  obtain ⟨h1, h2⟩ := fold_is new _ (rising_minus ((chk_zero l).1 hl).2.2 old) hA
  unfold patchL
  exact (srt_is hA h1 fun p => by rw [List.mem_append]; exact (h2 p).symm).symm
/-- A key that l has, and old has not, is one of what is left. -/
theorem left_key {l old : List Pr} (hl : Apart l) (ho : ∀ p ∈ old, p ∈ l) (k : ByteArray) : getB (minus l old) k = (getB l k && !getB old k) := by
  rw [Bool.eq_iff_iff, Bool.and_eq_true, Bool.not_eq_true', getB_iff, getB_iff]
  constructor
  · rintro ⟨p, hp, rfl⟩
    obtain ⟨h1, h2⟩ := (minus_mem l old p).1 hp
    refine ⟨⟨p, h1, rfl⟩, ?_⟩
    cases hb : getB old p.1
    · rfl
    · obtain ⟨q, hq, e⟩ := getB_iff.1 hb
      exact absurd (by rw [same_key hl h1 (ho q hq) e.symm]; exact hq) h2
  · rintro ⟨⟨p, hp, rfl⟩, hb⟩
    refine ⟨p, (minus_mem l old p).2 ⟨hp, fun h => ?_⟩, rfl⟩
    have := getB_iff.2 ⟨p, h, rfl⟩
    rw [hb] at this; cases this
theorem among_of {l old : List Pr} (h : strange l old = false) : ∀ p ∈ old, p ∈ l := by
  intro p hp
  unfold strange at h
  rw [List.any_eq_false] at h
  exact (hasB_iff l p).1 (by simpa using h p hp)
theorem rget_is (A : Option Addr) (l : List Pr) (c : Nat) (k v : ByteArray) (b : Bool) (hv : getV l k = v) (hb : getB l k = b) (w : World) (hl : l.length ≤ 200) (hp : PL w w.heap.size A l) :
    Calls Try.prog 12 #[.slice A l.length c, .string k] w fun e w' => e = .returned (.tuple #[.string v, .bool b]) ∧ Below w.heap.size w w' := by
  subst hv hb
  exact rget_any A l c k w (by omega) hp

set_option maxRecDepth 100000 in
set_option maxHeartbeats 4000000 in
theorem rpatch_bad (A B C : Option Addr) (l old new : List Pr) (c d f : Nat) (w : World) (hF : Fit l) (hG : Fit old) (hH : Fit new) (hp : PL w w.heap.size A l) (hq : PL w w.heap.size B old) (hr : PL w w.heap.size C new) (E : Int) (hE : chk3 l old new = E) (h0 : (E != 0) = true) :
    Calls Try.prog 18 #[.slice A l.length c, .slice B old.length d, .slice C new.length f] w (PatchBad w E) := by
  have HLL := hd (LL3 c d f hp hq hr)
  have HFit : Hid (∀ k, k < 3 → Fit (three l old new k)) := hd fun k hk => by
    match k, hk with
    | 0, _ => exact hF
    | 1, _ => exact hG
    | 2, _ => exact hH
  have HE := hd hE
  have HE0 := hd h0
  clear hE hp hq hr hF hG hH h0
  go_enter Try.func18, Try.ntmps18
  go_wp2
  go_loopw [29] (fun i wr => ∃ k : Nat, k ≤ 3 ∧ i = .int .i64 k ∧ Below (w.heap.size + 1) (w.alloc (.cells #[.slice A l.length c, .slice B old.length d, .slice C new.length f] 22)) wr ∧ Hid (∀ j, j < k → chk (three l old new j) = 0)) (fun i _ => 3 - (intOf i).toNat)
  case atStart => exact ⟨0, by omega, rfl, Below.refl _ _, fun j hj => absurd hj (Nat.not_lt_zero _)⟩
  case round =>
    obtain ⟨k, hk, rfl, hb, HX⟩ := hrel
    have hw : Below w.heap.size w wr := ((Below.refl _ _).alloc (Nat.le_refl _) _).trans (hb.mono (by omega))
    by_cases hlt : k < 3
    · obtain ⟨hc0, hp0⟩ := HLL.out.2 k hlt
      have hF := HFit.out k hlt
      have hc := (hb.cell (p := ⟨w.heap.size, 0 + k, none⟩) (by simp)).trans hc0
      rw [Nat.zero_add] at hc
      have hp1 := (hp0.below (B := _) (hb.mono (by simp))).more hb.size
      clear hc0 hp0
      cases hcz : (chk (three l old new k) != 0)
      · have HY := one_more (p := fun j => chk (three l old new j) = 0) HX (by simpa using hcz)
        have hC := hd (rcheck_is (three A B C k) (three l old new k) (three c d f k) wr hF hp1 0 (by simpa using hcz))
        clear hcz hp1 hF HX
        go_wp2_with (first | (go_at_call 14; refine hC.out.mono ?_; rintro e w3 ⟨rfl, hb3⟩))
        have hb4 := hb.trans (hb3.mono (by have := hb.size; simp at this; omega))
        go_roundw
        case rel => exact ⟨k + 1, by omega, by go_num, hb4, HY⟩
        case measure => simp [intOf]; omega
      · have HR := hd ((chkAll3 l old new).symm.trans (chkAll_at 3 (three l old new) k hlt HX.out (by simpa using hcz)))
        obtain ⟨F, hFz⟩ : ∃ F, F = chk (three l old new k) := ⟨_, rfl⟩
        have hC := hd (rcheck_is (three A B C k) (three l old new k) (three c d f k) wr hF hp1 F hFz.symm)
        rw [← hFz] at hcz HR
        have HEF : Hid (E = F) := hd (HE.out.symm.trans HR.out)
        clear hp1 hF HX hFz HR
        go_wp2_with (first | (go_at_call 14; refine hC.out.mono ?_; rintro e w3 ⟨rfl, hb3⟩))
        go_ret2
        exact ⟨by rw [HEF.out]; rfl, hw.trans (hb3.mono hw.size)⟩
    · exfalso
      have h1 := chkAll_none 3 (three l old new) (fun j hj => HX.out j (by omega))
      rw [chkAll3, HE.out] at h1
      have h2 := HE0.out
      rw [h1] at h2
      cases h2

end Go.Proofs.Ytggbafkeogccjaa
