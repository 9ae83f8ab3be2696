/- The walks of TrailTells and TrailOrder: whatever the input, they answer true, and old memory stays as it was. -/
import Derived.Test.YtpjibfopfdbnjaaLive
import Derived.Test.YtpjibfopfdbnjaaChecks
import Derived.Test.YtpjibfopfdbnjaaComp
namespace Go.Proofs.Ytpjibfopfdbnjaa
open Go.RowKit

def two {α : Type} (x y : α) : Nat → α
  | 0 => x
  | _ => y
def three {α : Type} (x y z : α) : Nat → α
  | 0 => x
  | 1 => y
  | _ => z
/-- A call that answers v and leaves old memory. -/
def Still (v : Value) (w : World) (e : Ending) (w' : World) : Prop := e = .returned v ∧ Below w.heap.size w w'
theorem Quiet.still {v : Value} {w : World} {e : Ending} {w' : World} (h : Quiet v w e w') : Still v w e w' := by
  obtain ⟨he, k, rfl⟩ := h
  exact ⟨he, below_drewN (Below.refl _ _) _⟩
theorem calls_still {f : FuncId} {args : Array Value} {v : Value} {w : World} (h : Calls Try.prog f args w (Quiet v w)) : Calls Try.prog f args w (Still v w) := h.mono fun _ _ hq => hq.still
def AllTrue (w : World) (e : Ending) (w' : World) : Prop := e = .returned (.bool true) ∧ Below w.heap.size w w'

theorem LL2 {W : World} {A B : Option Addr} {l m : List Int} (c d : Nat) : LL (W.alloc (.cells #[.slice A l.length c, .slice B m.length d] 22)) W.heap.size 0 2 (two A B) (two l m) (two c d) :=
  ⟨by simp, fun k hk => by
    match k, hk with
    | 0, _ => simp [two]
    | 1, _ => simp [two]⟩
theorem LL3 {W : World} {A B C : Option Addr} {l m n : List Int} (c d e : Nat) : LL (W.alloc (.cells #[.slice A l.length c, .slice B m.length d, .slice C n.length e] 22)) W.heap.size 0 3 (three A B C) (three l m n) (three c d e) :=
  ⟨by simp, fun k hk => by
    match k, hk with
    | 0, _ => simp [three]
    | 1, _ => simp [three]
    | 2, _ => simp [three]⟩
theorem LL1 {W : World} {A : Option Addr} {l : List Int} (c : Nat) : LL (W.alloc (.cells #[.slice A l.length c] 22)) W.heap.size 0 1 (fun _ => A) (fun _ => l) (fun _ => c) :=
  ⟨by simp, fun k hk => by
    match k, hk with
    | 0, _ => simp⟩
theorem still_alloc {W : World} {o : Obj} {v : Value} {e : Ending} {w' : World} (h : Quiet v (W.alloc o) e w') : Still v W e w' := by
  obtain ⟨he, k, rfl⟩ := h
  exact ⟨he, below_drewN ((Below.refl _ _).alloc (Nat.le_refl _) _) _⟩
theorem short1 (A : Option Addr) (l : List Int) (c : Nat) (W : World) (hl : l.length ≤ 9223372036854775807) (r : Bool) (hr : shortB 1 (fun _ => l) = r) :
    Calls Try.prog 9 #[.slice (some ⟨W.heap.size, 0, none⟩) 1 1] (W.alloc (.cells #[.slice A l.length c] 22)) (Still (.bool r) W) := by
  subst hr
  exact (short_any W.heap.size 0 1 1 _ _ _ _ (by omega) (fun k hk => hl) (LL1 (A := A) (l := l) c)).mono fun e w' h => still_alloc h
theorem short2 (A B : Option Addr) (l m : List Int) (c d : Nat) (W : World) (hl : l.length ≤ 9223372036854775807) (hm : m.length ≤ 9223372036854775807) (r : Bool) (hr : shortB 2 (two l m) = r) :
    Calls Try.prog 9 #[.slice (some ⟨W.heap.size, 0, none⟩) 2 2] (W.alloc (.cells #[.slice A l.length c, .slice B m.length d] 22)) (Still (.bool r) W) := by
  subst hr
  exact (short_any W.heap.size 0 2 2 _ _ _ _ (by omega) (fun k hk => by
    match k, hk with
    | 0, _ => exact hl
    | 1, _ => exact hm) (LL2 (A := A) (B := B) (l := l) (m := m) c d)).mono fun e w' h => still_alloc h
theorem short3 (A B C : Option Addr) (l m n : List Int) (c d f : Nat) (W : World) (hl : l.length ≤ 9223372036854775807) (hm : m.length ≤ 9223372036854775807) (hn : n.length ≤ 9223372036854775807) (r : Bool) (hr : shortB 3 (three l m n) = r) :
    Calls Try.prog 9 #[.slice (some ⟨W.heap.size, 0, none⟩) 3 3] (W.alloc (.cells #[.slice A l.length c, .slice B m.length d, .slice C n.length f] 22)) (Still (.bool r) W) := by
  subst hr
  exact (short_any W.heap.size 0 3 3 _ _ _ _ (by omega) (fun k hk => by
    match k, hk with
    | 0, _ => exact hl
    | 1, _ => exact hm
    | 2, _ => exact hn) (LL3 (A := A) (B := B) (C := C) (l := l) (m := m) (n := n) c d f)).mono fun e w' h => still_alloc h

set_option maxHeartbeats 4000000 in
theorem tells_any (A B : Option Addr) (l m : List Int) (c d : Nat) (w : World) (hl : l.length ≤ 9223372036854775807) (hm : m.length ≤ 9223372036854775807) (hc : l.length ≤ c) (hd1 : m.length ≤ d) (hp : IL w w.heap.size A l) (hq : IL w w.heap.size B m) :
    Calls Try.prog 3 #[.slice A l.length c, .slice B m.length d] w (AllTrue w) := by
  have HP := hd hp
  have HQ := hd hq
  clear hp hq
  cases hs : shortB 2 (two l m)
  · have HS := hd hs
    clear hs
    go_enter Try.func3, Try.ntmps3
    go_wp2_with fail
    refine (live_any _).mono ?_
    rintro e w1 ⟨rfl, hb1⟩
    go_wp2_with fail
    refine (short2 A B l m c d w1 hl hm _ HS.out).mono ?_
    rintro e w2 ⟨rfl, hb2⟩
    go_wp2_with fail
    go_ret
    exact ⟨rfl, hb1.trans (hb2.mono hb1.size)⟩
  · have HS := hd hs
    clear hs
    go_enter Try.func3, Try.ntmps3
    go_wp2_with fail
    refine (live_any _).mono ?_
    rintro e w1 ⟨rfl, hb1⟩
    go_wp2_with fail
    refine (short2 A B l m c d w1 hl hm _ HS.out).mono ?_
    rintro e w2 ⟨rfl, hb2⟩
    have hb2 := hb1.trans (hb2.mono hb1.size)
    go_wp2_with fail
    refine (calls_still (check_any A l c w2 hl (HP.out.later hb2))).mono ?_
    rintro e w3 ⟨rfl, hb3⟩
    have hb3 := hb2.trans (hb3.mono hb2.size)
    go_wp2_with fail
    refine (calls_still (rcheck_any A l c w3 hl (HP.out.later hb3))).mono ?_
    rintro e w4 ⟨rfl, hb4⟩
    have hb4 := hb3.trans (hb4.mono hb3.size)
    go_wp2_with fail
    refine (calls_still (compare_any A B l m c d w4 hl hm (HP.out.later hb4) (HQ.out.later hb4))).mono ?_
    rintro e w5 ⟨rfl, hb5⟩
    have hb5 := hb4.trans (hb5.mono hb4.size)
    go_wp2_with fail
    refine (calls_still (rcompare_any A B l m c d w5 hl hm (HP.out.later hb5) (HQ.out.later hb5))).mono ?_
    rintro e w6 ⟨rfl, hb6⟩
    have hb6 := hb5.trans (hb6.mono hb5.size)
    go_wp2_with fail
    refine (calls_still (same_any A B l m c d w6 hl hm (HP.out.later hb6) (HQ.out.later hb6))).mono ?_
    rintro e w7 ⟨rfl, hb7⟩
    have hb7 := hb6.trans (hb7.mono hb6.size)
    go_wp2_with fail
    refine (calls_still (rsame_any A B l m c d w7 hl hm (HP.out.later hb7) (HQ.out.later hb7))).mono ?_
    rintro e w8 ⟨rfl, hb8⟩
    have hb8 := hb7.trans (hb8.mono hb7.size)
    go_wp2_with fail
    refine (calls_still (above_any A B l m c d w8 hl hm (HP.out.later hb8) (HQ.out.later hb8))).mono ?_
    rintro e w9 ⟨rfl, hb9⟩
    have hb9 := hb8.trans (hb9.mono hb8.size)
    go_wp2_with fail
    refine (calls_still (rabove_any A B l m c d w9 hl hm hd1 (HP.out.later hb9) (HQ.out.later hb9))).mono ?_
    rintro e w10 ⟨rfl, hb10⟩
    have hb10 := hb9.trans (hb10.mono hb9.size)
    go_wp2_with fail
    refine (calls_still (left_any A B l m c d w10 hl hm (HP.out.later hb10) (HQ.out.later hb10))).mono ?_
    rintro e w11 ⟨rfl, hb11⟩
    have hb11 := hb10.trans (hb11.mono hb10.size)
    go_wp2_with fail
    refine (calls_still (rleft_any A B l m l.length c d w11 hl hm hc hd1 rfl (HP.out.later hb11) (HQ.out.later hb11))).mono ?_
    rintro e w12 ⟨rfl, hb12⟩
    have hb12 := hb11.trans (hb12.mono hb11.size)
    go_wp2_with fail
    go_ret
    exact ⟨by simp, hb12⟩

end Go.Proofs.Ytpjibfopfdbnjaa
