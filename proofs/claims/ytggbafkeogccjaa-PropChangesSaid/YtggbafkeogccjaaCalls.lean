/- Diff, Patch, Same and Check as the laws call them: one contract each for whatever short lists, with the answers named. -/
import Derived.Test.YtggbafkeogccjaaFacts
namespace Go.Proofs.Ytggbafkeogccjaa
open Go.RowKit

/-- Patch's error, and its list. -/
def PE (l old new : List Pr) : Int := if chk3 l old new = 0 then patchE l old new else chk3 l old new
def PLs (l old new : List Pr) : List Pr := if PE l old new = 0 then patchL l old new else []
theorem can_iff {l old new : List Pr} : PE l old new = 0 ↔ Can l old new := by
  unfold PE
  constructor
  · intro h
    by_cases h3 : chk3 l old new = 0
    · rw [if_pos h3] at h; exact can_of h3 h
    · rw [if_neg h3] at h; exact absurd h h3
  · intro h
    rw [if_pos h.chk3]; exact h.zero
theorem Can.list {l old new : List Pr} (h : Can l old new) : PLs l old new = patchL l old new := by unfold PLs; rw [if_pos (can_iff.2 h)]

def PatchIs (w : World) (E : Int) (L : List Pr) (e : Ending) (w' : World) : Prop := ∃ v, e = .returned (.tuple #[v, .int .i64 E]) ∧ OwnP w' w.heap.size v L ∧ Below w.heap.size w w'
theorem patch_is (A B C : Option Addr) (l old new : List Pr) (c d f : Nat) (w : World) (hF : Fit l) (hG : Fit old) (hH : Fit new) (hp : PL w w.heap.size A l) (hq : PL w w.heap.size B old) (hr : PL w w.heap.size C new) (E : Int) (hE : PE l old new = E) (L : List Pr) (hL : PLs l old new = L) :
    Calls Try.prog 17 #[.slice A l.length c, .slice B old.length d, .slice C new.length f] w (PatchIs w E L) := by
  subst hE hL
  by_cases h3 : chk3 l old new = 0
  · have h3' := h3
    unfold chk3 chk2 at h3'
    have e1 : chk l = 0 := by
      by_cases e : chk l = 0
      · exact e
      · rw [if_neg e] at h3'; exact absurd h3' e
    rw [if_pos e1] at h3'
    have e2 : chk old = 0 := by
      by_cases e : chk old = 0
      · exact e
      · rw [if_neg e] at h3'; exact absurd h3' e
    rw [if_pos e2] at h3'
    refine (patch_ok A B C l old new c d f w e1 e2 h3' hp hq hr).mono fun e w' h => ?_
    have hPE : PE l old new = patchE l old new := by unfold PE; rw [if_pos h3]
    unfold PatchRes at h
    unfold PatchIs PLs
    rw [hPE]
    by_cases h0 : patchE l old new = 0
    · rw [if_pos h0] at h ⊢
      rw [h0]; exact h
    · rw [if_neg h0] at h ⊢
      exact ⟨_, h.1, OwnP.nil _ _, h.2⟩
  · refine (patch_bad A B C l old new c d f w hF hG hH hp hq hr _ rfl (by simpa using h3)).mono fun e w' h => ?_
    have hPE : PE l old new = chk3 l old new := by unfold PE; rw [if_neg h3]
    unfold PatchIs PLs
    rw [hPE, if_neg h3]
    exact ⟨_, h.1, OwnP.nil _ _, h.2⟩

def DiffIs (w : World) (E : Int) (L M : List Pr) (e : Ending) (w' : World) : Prop := ∃ v1 v2, e = .returned (.tuple #[v1, v2, .int .i64 E]) ∧ OwnP w' w.heap.size v1 L ∧ OwnP w' w.heap.size v2 M ∧ Below w.heap.size w w'
theorem both_zero {l m : List Pr} (h : chk2 l m = 0) : chk l = 0 ∧ chk m = 0 := by
  unfold chk2 at h
  by_cases e : chk l = 0
  · rw [if_pos e] at h; exact ⟨e, h⟩
  · rw [if_neg e] at h; exact absurd h e
theorem diff_no (A B : Option Addr) (l m : List Pr) (c d : Nat) (w : World) (hF : Fit l) (hG : Fit m) (hp : PL w w.heap.size A l) (hq : PL w w.heap.size B m) (E : Int) (hE : chk2 l m = E) (h0 : (E != 0) = true) :
    Calls Try.prog 19 #[.slice A l.length c, .slice B m.length d] w (DiffIs w E [] []) :=
  (diff_bad A B l m c d w hF hG hp hq E hE h0).mono fun _ _ h => ⟨_, _, h.1, OwnP.nil _ _, OwnP.nil _ _, h.2⟩
theorem diff_yes (A B : Option Addr) (l m : List Pr) (c d : Nat) (w : World) (h : chk2 l m = 0) (hp : PL w w.heap.size A l) (hq : PL w w.heap.size B m) :
    Calls Try.prog 19 #[.slice A l.length c, .slice B m.length d] w (DiffIs w 0 (minus l m) (minus m l)) :=
  (diff_ok A B l m c d w (both_zero h).1 (both_zero h).2 hp hq).mono fun _ _ h => h

theorem same_is (A B : Option Addr) (l m : List Pr) (c d : Nat) (r : Bool) (hr : decide (l = m) = r) (w : World) (hl : l.length ≤ 200) (hm : m.length ≤ 200) (hp : PL w w.heap.size A l) (hq : PL w w.heap.size B m) :
    Calls Try.prog 15 #[.slice A l.length c, .slice B m.length d] w fun e w' => e = .returned (.bool r) ∧ Below w.heap.size w w' := by
  subst hr
  exact same_any A B l m c d w (by omega) (by omega) hp hq
theorem check_is (A : Option Addr) (l : List Pr) (c : Nat) (w : World) (hF : Fit l) (hp : PL w w.heap.size A l) (E : Int) (hE : chk l = E) :
    Calls Try.prog 13 #[.slice A l.length c] w fun e w' => e = .returned (.int .i64 E) ∧ Below w.heap.size w w' := hE ▸ check_any A l c w hF hp

theorem short3 (A B C : Option Addr) (l m n : List Pr) (c d f : Nat) (w : World) (hW : Wide l) (hV : Wide m) (hU : Wide n) (hp : PL w w.heap.size A l) (hq : PL w w.heap.size B m) (hr : PL w w.heap.size C n) (r : Bool) (hE : shortB 3 (three l m n) = r) :
    Calls Try.prog 10 #[.slice (some ⟨w.heap.size, 0, none⟩) 3 3] (w.alloc (.cells #[.slice A l.length c, .slice B m.length d, .slice C n.length f] 22)) fun e w' => e = .returned (.bool r) ∧ Below w.heap.size w w' := by
  subst hE
  refine (short_any w.heap.size 0 3 3 (three A B C) (three l m n) (three c d f) _ (by omega) (fun k hk => by
    match k, hk with
    | 0, _ => exact hW
    | 1, _ => exact hV
    | 2, _ => exact hU) (LL3 c d f hp hq hr)).mono fun e w' ⟨he, hb⟩ => ⟨he, ((Below.refl _ _).alloc (Nat.le_refl _) _).trans (hb.mono (by simp))⟩
theorem fits3 {l m n : List Pr} (h : shortB 3 (three l m n) = true) : Fit l ∧ Fit m ∧ Fit n := ⟨(shortB_iff _ _).1 h 0 (by omega), (shortB_iff _ _).1 h 1 (by omega), (shortB_iff _ _).1 h 2 (by omega)⟩

end Go.Proofs.Ytggbafkeogccjaa
