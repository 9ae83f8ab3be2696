/- The walk of PropTells: whatever the input, it answers true, and old memory stays as it was. -/
import Derived.Test.YtggbafkeogccjaaLive
namespace Go.Proofs.Ytggbafkeogccjaa
open Go.RowKit

theorem short2 (A B : Option Addr) (l m : List Pr) (c d : Nat) (w : World) (hW : Wide l) (hV : Wide m) (hp : PL w w.heap.size A l) (hq : PL w w.heap.size B m) (r : Bool) (hr : shortB 2 (two l m) = r) :
    Calls Try.prog 10 #[.slice (some ⟨w.heap.size, 0, none⟩) 2 2] (w.alloc (.cells #[.slice A l.length c, .slice B m.length d] 22)) fun e w' => e = .returned (.bool r) ∧ Below w.heap.size w w' := by
  subst hr
  refine (short_any w.heap.size 0 2 2 (two A B) (two l m) (two c d) _ (by omega) (fun k hk => by
    match k, hk with
    | 0, _ => exact hW
    | 1, _ => exact hV) (LL2 c d hp hq)).mono fun e w' ⟨he, hb⟩ => ⟨he, ((Below.refl _ _).alloc (Nat.le_refl _) _).trans (hb.mono (by simp))⟩
theorem fits2 {l m : List Pr} (h : shortB 2 (two l m) = true) : Fit l ∧ Fit m := ⟨(shortB_iff _ _).1 h 0 (by omega), (shortB_iff _ _).1 h 1 (by omega)⟩

theorem PL.later {w w' : World} {A : Option Addr} {l : List Pr} (h : PL w w.heap.size A l) (hb : Below w.heap.size w w') : PL w' w'.heap.size A l := (h.below hb).more hb.size

def AllTrue (w : World) (e : Ending) (w' : World) : Prop := e = .returned (.bool true) ∧ Below w.heap.size w w'

set_option maxHeartbeats 4000000 in
theorem tells_any (A B : Option Addr) (l m : List Pr) (c d : Nat) (k : ByteArray) (w : World) (hW : Wide l) (hV : Wide m) (hp : PL w w.heap.size A l) (hq : PL w w.heap.size B m) :
    Calls Try.prog 3 #[.slice A l.length c, .slice B m.length d, .string k] w (AllTrue w) := by
  have HP := hd hp
  have HQ := hd hq
  have HW := hd hW
  have HV := hd hV
  clear hp hq hW hV
  cases hs : shortB 2 (two l m)
  · have HS := hd hs
    clear hs
    go_enter Try.func3, Try.ntmps3
    go_wp2_with fail
    refine (live_any _).mono ?_
    rintro e w1 ⟨rfl, hb1⟩
    go_wp2_with fail
    refine (short2 A B l m c d w1 HW.out HV.out (HP.out.later hb1) (HQ.out.later hb1) _ HS.out).mono ?_
    rintro e w2 ⟨rfl, hb2⟩
    go_wp2_with fail
    go_ret
    exact ⟨rfl, hb1.trans (hb2.mono hb1.size)⟩
  · have HS := hd hs
    obtain ⟨hF, hG⟩ := fits2 hs
    have HF := hd hF
    have HG := hd hG
    have l60 := hF.1
    have m60 := hG.1
    clear hs hF hG
    go_enter Try.func3, Try.ntmps3
    go_wp2_with fail
    refine (live_any _).mono ?_
    rintro e w1 ⟨rfl, hb1⟩
    go_wp2_with fail
    refine (short2 A B l m c d w1 HW.out HV.out (HP.out.later hb1) (HQ.out.later hb1) _ HS.out).mono ?_
    rintro e w2 ⟨rfl, hb2⟩
    have hb2 := hb1.trans (hb2.mono hb1.size)
    go_wp2_with fail
    refine (get_any A l c k w2 (by omega) (HP.out.later hb2)).mono ?_
    rintro e w3 ⟨rfl, hb3⟩
    have hb3 := hb2.trans (hb3.mono hb2.size)
    go_wp2_with fail
    refine (rget_any A l c k w3 (by omega) (HP.out.later hb3)).mono ?_
    rintro e w4 ⟨rfl, hb4⟩
    have hb4 := hb3.trans (hb4.mono hb3.size)
    go_wp2_with fail
    refine (check_any A l c w4 HF.out (HP.out.later hb4)).mono ?_
    rintro e w5 ⟨rfl, hb5⟩
    have hb5 := hb4.trans (hb5.mono hb4.size)
    go_wp2_with fail
    refine (rcheck_any A l c w5 HF.out (HP.out.later hb5)).mono ?_
    rintro e w6 ⟨rfl, hb6⟩
    have hb6 := hb5.trans (hb6.mono hb5.size)
    go_wp2_with fail
    go_goals
    refine (same_any A B l m c d w6 (by omega) (by omega) (HP.out.later hb6) (HQ.out.later hb6)).mono ?_
    rintro e w7 ⟨rfl, hb7⟩
    have hb7 := hb6.trans (hb7.mono hb6.size)
    go_wp2_with fail
    refine (rsame_any A B l m c d w7 (by omega) (by omega) (HP.out.later hb7) (HQ.out.later hb7)).mono ?_
    rintro e w8 ⟨rfl, hb8⟩
    have hb8 := hb7.trans (hb8.mono hb7.size)
    go_wp2_with fail
    refine (same_any A A l l c c w8 (by omega) (by omega) (HP.out.later hb8) (HP.out.later hb8)).mono ?_
    rintro e w9 ⟨rfl, hb9⟩
    have hb9 := hb8.trans (hb9.mono hb8.size)
    go_wp2_with fail
    go_ret
    exact ⟨by simp, hb9⟩

end Go.Proofs.Ytggbafkeogccjaa
