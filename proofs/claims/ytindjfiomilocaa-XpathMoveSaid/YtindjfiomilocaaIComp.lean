/- Compare, the library's and the document's, answers the order of two paths; memory stays as it was. -/
import Derived.Test.YtindjfiomilocaaIAlike
namespace Go.Proofs.Ytindjfiomilocaa
open Go.RowKit

theorem nan_any (x : Int) (w : World) : Calls Try.prog 35 #[.int .i64 x] w fun e w' => e = .returned (.bool false) ∧ w = w' := by
  go_enter Try.func35, Try.ntmps35
  go_wp2
  go_ret
  exact ⟨ret_bool (by simp), rfl⟩

set_option maxRecDepth 4000 in
theorem cmp_any (x y : Int) (w : World) : Calls Try.prog 31 #[.int .i64 x, .int .i64 y] w fun e w' => e = .returned (.int .i64 (cmpI x y)) ∧ w = w' := by
  by_cases h1 : x < y
  · go_enter Try.func31, Try.ntmps31
    go_wp2_with (go_at_call 35; refine (nan_any _ _).mono ?_; rintro e w' ⟨rfl, rfl⟩)
    go_ret
    exact ⟨ret_int (by unfold cmpI; rw [if_pos h1]), rfl⟩
  · by_cases h2 : y < x
    · go_enter Try.func31, Try.ntmps31
      go_wp2_with (go_at_call 35; refine (nan_any _ _).mono ?_; rintro e w' ⟨rfl, rfl⟩)
      go_ret
      exact ⟨ret_int (by unfold cmpI; rw [if_neg (by omega), if_pos h2]), rfl⟩
    · go_enter Try.func31, Try.ntmps31
      go_wp2_with (go_at_call 35; refine (nan_any _ _).mono ?_; rintro e w' ⟨rfl, rfl⟩)
      go_ret
      exact ⟨ret_int (by unfold cmpI; rw [if_neg (by omega), if_neg (by omega)]), rfl⟩
set_option maxRecDepth 4000 in
theorem cmp_quiet (x y : Int) (w : World) (a n : Nat) : Calls Try.prog 31 #[.int .i64 x, .int .i64 y] (w.drewN (a + n)) fun e w' => e = .returned (.int .i64 (cmpI x y)) ∧ ∃ m, w' = w.drewN (a + m) :=
  (cmp_any x y _).mono fun _ _ ⟨he, hw⟩ => ⟨he, n, hw.symm⟩

set_option maxRecDepth 4000 in
set_option maxHeartbeats 2000000 in
theorem compare_any (A B : Option Addr) (l m : List Int) (c d : Nat) (w : World) (hl : l.length ≤ 9223372036854775807) (hm : m.length ≤ 9223372036854775807) (hp : IL w w.heap.size A l) (hq : IL w w.heap.size B m) :
    Calls Try.prog 19 #[.slice A l.length c, .slice B m.length d] w (Quiet (.int .i64 (cmpL l m)) w) := by
  have HC := hd (palike_any A B l m c d w hl hm hp hq)
  have hN := alikeN_le l m
  have HI := hd (cmpL_in l m)
  have HO := hd (cmpL_out l m)
  obtain ⟨K, hK⟩ : ∃ K, K = alikeN l m := ⟨_, rfl⟩
  rw [← hK] at HC hN HI HO
  clear hK
  by_cases h1 : K < l.length ∧ K < m.length
  · obtain ⟨h1, h2⟩ := h1
    obtain ⟨b1, o1, rfl, hl1, c1⟩ := hp.at_ h1
    obtain ⟨b2, o2, rfl, hl2, c2⟩ := hq.at_ h2
    have HF := hd (HI.out h1 h2)
    clear hp hq HI HO hN
    go_enter Try.func19, Try.ntmps19
    go_wp2_with (go_at_call 29; refine HC.out.mono ?_; rintro e w' ⟨rfl, kd, rfl⟩)
    go_quiet ((go_at_call 31; exact cmp_quiet _ _ _ _ _))
    go_wp2
    go_ret
    exact ret_quiet (int_eq (by rw [HF.out])) (by first | exact ⟨_, rfl⟩ | exact ⟨_, World.drewN_drewN _ _ _⟩ | exact ⟨_, (World.drewN_drewN _ _ _).trans (World.drewN_drewN _ _ _)⟩)
  · have HF := hd (HO.out (by omega))
    clear hp hq HI HO
    by_cases h3 : K < l.length
    · have h4 : decide (K < m.length) = false := decide_eq_false (by omega)
      clear hN h1
      go_enter Try.func19, Try.ntmps19
      go_wp2_with (first | (go_at_call 29; refine HC.out.mono ?_; rintro e w' ⟨rfl, kd, rfl⟩) | (go_at_call 31; refine (cmp_any _ _ _).mono ?_; rintro e w' ⟨rfl, rfl⟩))
      go_ret
      exact ret_quiet (int_eq (by rw [HF.out])) (by first | exact ⟨_, rfl⟩ | exact ⟨_, World.drewN_drewN _ _ _⟩ | exact ⟨_, (World.drewN_drewN _ _ _).trans (World.drewN_drewN _ _ _)⟩)
    · have h4 : decide (K < l.length) = false := decide_eq_false (by omega)
      clear hN h1 h3
      go_enter Try.func19, Try.ntmps19
      go_wp2_with (first | (go_at_call 29; refine HC.out.mono ?_; rintro e w' ⟨rfl, kd, rfl⟩) | (go_at_call 31; refine (cmp_any _ _ _).mono ?_; rintro e w' ⟨rfl, rfl⟩))
      go_ret
      exact ret_quiet (int_eq (by rw [HF.out])) (by first | exact ⟨_, rfl⟩ | exact ⟨_, World.drewN_drewN _ _ _⟩ | exact ⟨_, (World.drewN_drewN _ _ _).trans (World.drewN_drewN _ _ _)⟩)

end Go.Proofs.Ytindjfiomilocaa
