/- Diff answers what is wrong first, or what each of two lists has that the other has not. -/
import Derived.Test.YtggbafkeogccjaaWithout
import Derived.Test.YtggbafkeogccjaaShort
namespace Go.Proofs.Ytggbafkeogccjaa
open Go.RowKit

theorem OwnP.below {w w' : World} {b : Nat} {v : Value} {l : List Pr} (h : OwnP w b v l) (hb : Below w.heap.size w w') : OwnP w' b v l := by
  obtain ⟨A, cap, e, h1, h2⟩ := h
  refine ⟨A, cap, e, h1, ?_⟩
  rcases h2 with h2 | ⟨g, c, cur, e2, hg, hh, r⟩
  · exact Or.inl h2
  · exact Or.inr ⟨g, c, cur, e2, hg, (hb.block g (Array.getElem?_eq_some_iff.1 hh).1).trans hh, r⟩
theorem OwnP.nil (w : World) (b : Nat) : OwnP w b (.slice none 0 0) [] := ⟨none, 0, rfl, rfl, Or.inl ⟨rfl, rfl⟩⟩
theorem OwnP.PL {w : World} {b : Nat} {v : Value} {l : List Pr} (h : OwnP w b v l) : ∃ A cap, v = .slice A l.length cap ∧ Ytggbafkeogccjaa.PL w w.heap.size A l := by
  obtain ⟨A, cap, rfl, h⟩ := h
  exact ⟨A, cap, rfl, PL.of_own h⟩

def two {α : Type} (x y : α) : Nat → α := fun k => if k = 0 then x else y
def three {α : Type} (x y z : α) : Nat → α := fun k => if k = 0 then x else if k = 1 then y else z
theorem LL2 {w : World} {A B : Option Addr} {l m : List Pr} (c d : Nat) (hp : PL w w.heap.size A l) (hq : PL w w.heap.size B m) :
    LL (w.alloc (.cells #[.slice A l.length c, .slice B m.length d] 22)) w.heap.size 0 2 (two A B) (two l m) (two c d) := by
  refine ⟨by simp, fun k hk => ?_⟩
  have keep : Below w.heap.size w (w.alloc (.cells #[.slice A l.length c, .slice B m.length d] 22)) := (Below.refl _ _).alloc (Nat.le_refl _) _
  match k, hk with
  | 0, _ => exact ⟨by simp [two], (hp.below keep).more keep.size⟩
  | 1, _ => exact ⟨by simp [two], (hq.below keep).more keep.size⟩
theorem LL3 {w : World} {A B C : Option Addr} {l m n : List Pr} (c d e : Nat) (hp : PL w w.heap.size A l) (hq : PL w w.heap.size B m) (hr : PL w w.heap.size C n) :
    LL (w.alloc (.cells #[.slice A l.length c, .slice B m.length d, .slice C n.length e] 22)) w.heap.size 0 3 (three A B C) (three l m n) (three c d e) := by
  refine ⟨by simp, fun k hk => ?_⟩
  have keep : Below w.heap.size w (w.alloc (.cells #[.slice A l.length c, .slice B m.length d, .slice C n.length e] 22)) := (Below.refl _ _).alloc (Nat.le_refl _) _
  match k, hk with
  | 0, _ => exact ⟨by simp [three], (hp.below keep).more keep.size⟩
  | 1, _ => exact ⟨by simp [three], (hq.below keep).more keep.size⟩
  | 2, _ => exact ⟨by simp [three], (hr.below keep).more keep.size⟩
def chk2 (l m : List Pr) : Int := if chk l = 0 then chk m else chk l
def chk3 (l m n : List Pr) : Int := if chk l = 0 then chk2 m n else chk l
theorem chkAll2 (l m : List Pr) : chkAll 2 (two l m) = chk2 l m := by
  unfold chk2
  by_cases h : chk l = 0
  · rw [if_pos h]
    by_cases h2 : chk m = 0
    · rw [h2]
      exact chkAll_none 2 _ fun j hj => by
        match j, hj with
        | 0, _ => exact h
        | 1, _ => exact h2
    · exact chkAll_at 2 (two l m) 1 (by omega) (fun j hj => by obtain rfl : j = 0 := by omega
                                                               exact h) h2
  · rw [if_neg h]
    exact chkAll_at 2 (two l m) 0 (by omega) (fun j hj => by omega) h
theorem chkAll3 (l m n : List Pr) : chkAll 3 (three l m n) = chk3 l m n := by
  unfold chk3 chk2
  by_cases h : chk l = 0
  · rw [if_pos h]
    by_cases h2 : chk m = 0
    · rw [if_pos h2]
      by_cases h3 : chk n = 0
      · rw [h3]
        exact chkAll_none 3 _ fun j hj => by
          match j, hj with
          | 0, _ => exact h
          | 1, _ => exact h2
          | 2, _ => exact h3
      · exact chkAll_at 3 (three l m n) 2 (by omega) (fun j hj => by
          match j, hj with
          | 0, _ => exact h
          | 1, _ => exact h2) h3
    · rw [if_neg h2]
      exact chkAll_at 3 (three l m n) 1 (by omega) (fun j hj => by obtain rfl : j = 0 := by omega
                                                                   exact h) h2
  · rw [if_neg h]
    exact chkAll_at 3 (three l m n) 0 (by omega) (fun j hj => by omega) h

theorem rising_minus {l : List Pr} (h : Rising l) (m : List Pr) : Rising (minus l m) := List.Pairwise.filter _ h

def DiffBad (w : World) (E : Int) (e : Ending) (w' : World) : Prop := e = .returned (.tuple #[.slice none 0 0, .slice none 0 0, .int .i64 E]) ∧ Below w.heap.size w w'
def DiffOk (w : World) (l m : List Pr) (e : Ending) (w' : World) : Prop := ∃ v1 v2, e = .returned (.tuple #[v1, v2, .int .i64 0]) ∧ OwnP w' w.heap.size v1 (minus l m) ∧ OwnP w' w.heap.size v2 (minus m l) ∧ Below w.heap.size w w'

set_option maxHeartbeats 2000000 in
theorem diff_bad (A B : Option Addr) (l m : List Pr) (c d : Nat) (w : World) (hF : Fit l) (hG : Fit m) (hp : PL w w.heap.size A l) (hq : PL w w.heap.size B m) (E : Int) (hE : chk2 l m = E) (h0 : (E != 0) = true) :
    Calls Try.prog 19 #[.slice A l.length c, .slice B m.length d] w (DiffBad w E) := by
  have hC := hd (checkAll_any w.heap.size 0 2 2 (two A B) (two l m) (two c d) _ (by omega) (fun k hk => by
    match k, hk with
    | 0, _ => exact hF
    | 1, _ => exact hG) (LL2 c d hp hq))
  rw [chkAll2, hE] at hC
  clear hE hp hq hF hG
  go_enter Try.func19, Try.ntmps19
  go_wp2_with (go_at_call 26; refine hC.out.mono ?_; rintro e w1 ⟨rfl, hb1⟩)
  go_ret3
  exact ⟨rfl, ((Below.refl _ _).alloc (Nat.le_refl _) _).trans (hb1.mono (by simp))⟩

set_option maxHeartbeats 2000000 in
theorem diff_ok (A B : Option Addr) (l m : List Pr) (c d : Nat) (w : World) (hl : chk l = 0) (hm : chk m = 0) (hp : PL w w.heap.size A l) (hq : PL w w.heap.size B m) :
    Calls Try.prog 19 #[.slice A l.length c, .slice B m.length d] w (DiffOk w l m) := by
  have HF := hd (fit_of_chk hl)
  have HG := hd (fit_of_chk hm)
  have HRl := hd ((chk_zero l).1 hl).2.2
  have HRm := hd ((chk_zero m).1 hm).2.2
  have hC := hd (checkAll_any w.heap.size 0 2 2 (two A B) (two l m) (two c d) _ (by omega) (fun k hk => by
    match k, hk with
    | 0, _ => exact HF.out
    | 1, _ => exact HG.out) (LL2 c d hp hq))
  rw [chkAll2, show chk2 l m = 0 by unfold chk2; rw [if_pos hl]; exact hm] at hC
  have HP := hd hp
  have HQ := hd hq
  clear hl hm hp hq
  go_enter Try.func19, Try.ntmps19
  go_wp2_with (go_at_call 26; refine hC.out.mono ?_; rintro e w1 ⟨rfl, hb1⟩)
  have hw1 : Below w.heap.size w w1 := ((Below.refl _ _).alloc (Nat.le_refl _) _).trans (hb1.mono (by simp))
  refine (without_any A B l m c d w1 HF.out HRl.out.apart HG.out ((HP.out.below hw1).more hw1.size) ((HQ.out.below hw1).more hw1.size)).mono ?_
  rintro e w2 ⟨v1, rfl, hO1, hb2⟩
  have hw2 : Below w.heap.size w w2 := hw1.trans (hb2.mono hw1.size)
  go_wp2_with fail
  refine (without_any B A m l d c w2 HG.out HRm.out.apart HF.out ((HQ.out.below hw2).more hw2.size) ((HP.out.below hw2).more hw2.size)).mono ?_
  rintro e w3 ⟨v2, rfl, hO2, hb3⟩
  have hw3 : Below w.heap.size w w3 := hw2.trans (hb3.mono hw2.size)
  have r1 := (hO1.below hb3).base hw1.size
  have r2 := hO2.base hw2.size
  rw [srt_self (rising_minus HRl.out m)] at r1
  rw [srt_self (rising_minus HRm.out l)] at r2
  go_wp2_with fail
  go_ret3
  exact ⟨v1, v2, rfl, r1, r2, hw3⟩

end Go.Proofs.Ytggbafkeogccjaa
