/- Compare, the library's and the document's, answers the order of two paths; memory stays as it was. -/
import Derived.Test.YtpjibfopfdbnjaaAlike
namespace Go.Proofs.Ytpjibfopfdbnjaa
open Go.RowKit

theorem nan_any (x : Int) (w : World) : Calls Try.prog 36 #[.int .i64 x] w fun e w' => e = .returned (.bool false) ∧ w = w' := by
  go_enter Try.func36, Try.ntmps36
  go_wp2
  go_ret
  exact ⟨ret_bool (by simp), rfl⟩

theorem cmp_any (x y : Int) (w : World) : Calls Try.prog 33 #[.int .i64 x, .int .i64 y] w fun e w' => e = .returned (.int .i64 (cmpI x y)) ∧ w = w' := by
  by_cases h1 : x < y
  · go_enter Try.func33, Try.ntmps33
    go_wp2_with (go_at_call 36; refine (nan_any _ _).mono ?_; rintro e w' ⟨rfl, rfl⟩)
    go_ret
    exact ⟨ret_int (by unfold cmpI; rw [if_pos h1]), rfl⟩
  · by_cases h2 : y < x
    · go_enter Try.func33, Try.ntmps33
      go_wp2_with (go_at_call 36; refine (nan_any _ _).mono ?_; rintro e w' ⟨rfl, rfl⟩)
      go_ret
      exact ⟨ret_int (by unfold cmpI; rw [if_neg (by omega), if_pos h2]), rfl⟩
    · go_enter Try.func33, Try.ntmps33
      go_wp2_with (go_at_call 36; refine (nan_any _ _).mono ?_; rintro e w' ⟨rfl, rfl⟩)
      go_ret
      exact ⟨ret_int (by unfold cmpI; rw [if_neg (by omega), if_neg (by omega)]), rfl⟩
theorem cmp_quiet (x y : Int) (w : World) (a n : Nat) : Calls Try.prog 33 #[.int .i64 x, .int .i64 y] (w.drewN (a + n)) fun e w' => e = .returned (.int .i64 (cmpI x y)) ∧ ∃ m, w' = w.drewN (a + m) :=
  (cmp_any x y _).mono fun _ _ ⟨he, hw⟩ => ⟨he, n, hw.symm⟩

set_option maxHeartbeats 2000000 in
theorem compare_any (A B : Option Addr) (l m : List Int) (c d : Nat) (w : World) (hl : l.length ≤ 9223372036854775807) (hm : m.length ≤ 9223372036854775807) (hp : IL w w.heap.size A l) (hq : IL w w.heap.size B m) :
    Calls Try.prog 12 #[.slice A l.length c, .slice B m.length d] w (Quiet (.int .i64 (cmpL l m)) w) := by
  have HC := hd (alike_any A B l m c d w hl hm hp hq)
  have hN := alikeN_le l m
  have HI := hd (cmpL_in l m)
  have HO := hd (cmpL_out l m)
  obtain ⟨K, hK⟩ : ∃ K, K = alikeN l m := ⟨_, rfl⟩
  rw [← hK] at HC hN HI HO
  clear hK
  by_cases h1 : K < l.length ∧ K < m.length
  · obtain ⟨h1, h2⟩ := h1
    obtain ⟨b1, o1, rfl, hl1, c1⟩ := hp.at_ h1
    obtain ⟨b2, o2, rfl, hl2, c2⟩ := hq.at_ h2
    have HF := hd (HI.out h1 h2)
    clear hp hq HI HO hN
    go_enter Try.func12, Try.ntmps12
    go_wp2_with (go_at_call 32; refine HC.out.mono ?_; rintro e w' ⟨rfl, kd, rfl⟩)
    go_quiet ((go_at_call 33; exact cmp_quiet _ _ _ _ _))
    go_wp2
    go_ret
    exact ret_quiet (int_eq (by rw [HF.out])) (by first | exact ⟨_, rfl⟩ | exact ⟨_, World.drewN_drewN _ _ _⟩ | exact ⟨_, (World.drewN_drewN _ _ _).trans (World.drewN_drewN _ _ _)⟩)
  · have HF := hd (HO.out (by omega))
    clear hp hq HI HO
    by_cases h3 : K < l.length
    · have h4 : decide (K < m.length) = false := decide_eq_false (by omega)
      clear hN h1
      go_enter Try.func12, Try.ntmps12
      go_wp2_with (first | (go_at_call 32; refine HC.out.mono ?_; rintro e w' ⟨rfl, kd, rfl⟩) | (go_at_call 33; refine (cmp_any _ _ _).mono ?_; rintro e w' ⟨rfl, rfl⟩))
      go_ret
      exact ret_quiet (int_eq (by rw [HF.out])) (by first | exact ⟨_, rfl⟩ | exact ⟨_, World.drewN_drewN _ _ _⟩ | exact ⟨_, (World.drewN_drewN _ _ _).trans (World.drewN_drewN _ _ _)⟩)
    · have h4 : decide (K < l.length) = false := decide_eq_false (by omega)
      clear hN h1 h3
      go_enter Try.func12, Try.ntmps12
      go_wp2_with (first | (go_at_call 32; refine HC.out.mono ?_; rintro e w' ⟨rfl, kd, rfl⟩) | (go_at_call 33; refine (cmp_any _ _ _).mono ?_; rintro e w' ⟨rfl, rfl⟩))
      go_ret
      exact ret_quiet (int_eq (by rw [HF.out])) (by first | exact ⟨_, rfl⟩ | exact ⟨_, World.drewN_drewN _ _ _⟩ | exact ⟨_, (World.drewN_drewN _ _ _).trans (World.drewN_drewN _ _ _)⟩)

set_option maxHeartbeats 2000000 in
theorem rcompare_any (A B : Option Addr) (l m : List Int) (c d : Nat) (w : World) (hl : l.length ≤ 9223372036854775807) (hm : m.length ≤ 9223372036854775807) (hp : IL w w.heap.size A l) (hq : IL w w.heap.size B m) :
    Calls Try.prog 13 #[.slice A l.length c, .slice B m.length d] w (Quiet (.int .i64 (cmpL l m)) w) := by
  have HP := hd hp
  have HQ := hd hq
  clear hp hq
  go_enter Try.func13, Try.ntmps13
  go_wp2
  go_loopw [8] (fun i wr => ∃ n : Nat, n ≤ l.length ∧ n ≤ m.length ∧ i = .int .i64 n ∧ (∃ k, wr = w.drewN k) ∧ Hid (∀ j, j < n → iAt l j = iAt m j)) (fun i _ => l.length - (intOf i).toNat)
  case atStart => exact ⟨0, Nat.zero_le _, Nat.zero_le _, rfl, ⟨0, rfl⟩, fun j hj => absurd hj (Nat.not_lt_zero _)⟩
  case round =>
    obtain ⟨n, hn1, hn2, rfl, ⟨kd, rfl⟩, HA⟩ := hrel
    by_cases h1 : n < l.length
    · by_cases h2 : n < m.length
      · obtain ⟨b1, o1, rfl, hl1, c1⟩ := HP.out.at_ h1
        obtain ⟨b2, o2, rfl, hl2, c2⟩ := HQ.out.at_ h2
        have hne : ((n : Int) == (m.length : Int)) = false := by simp; omega
        by_cases g1 : iAt l n < iAt m n
        · have e := alikeN_of l m n (by omega) (by omega) HA.out (fun _ _ => by omega)
          have HF := hd (cmpL_in l m (by omega) (by omega))
          rw [e] at HF
          clear HA e
          have HG : Hid (cmpL l m = -1) := hd (by rw [HF.out]; unfold cmpI; rw [if_pos g1])
          clear HF
          go_wp2_with fail
          go_quiet (fail)
          go_wp2
          go_ret
          exact ret_quiet (int_eq (by rw [HG.out])) (by first | exact ⟨_, rfl⟩ | exact ⟨_, World.drewN_drewN _ _ _⟩ | exact ⟨_, (World.drewN_drewN _ _ _).trans (World.drewN_drewN _ _ _)⟩)
        · by_cases g2 : iAt m n < iAt l n
          · have e := alikeN_of l m n (by omega) (by omega) HA.out (fun _ _ => by omega)
            have HF := hd (cmpL_in l m (by omega) (by omega))
            rw [e] at HF
            clear HA e
            have HG : Hid (cmpL l m = 1) := hd (by rw [HF.out]; unfold cmpI; rw [if_neg g1, if_pos g2])
            clear HF
            go_wp2_with fail
            go_quiet (fail)
            go_wp2
            go_quiet (fail)
            go_wp2
            go_ret
            exact ret_quiet (int_eq (by rw [HG.out])) (by first | exact ⟨_, rfl⟩ | exact ⟨_, World.drewN_drewN _ _ _⟩ | exact ⟨_, (World.drewN_drewN _ _ _).trans (World.drewN_drewN _ _ _)⟩)
          · have HB := one_more (p := fun j => iAt l j = iAt m j) HA (by omega)
            clear HA
            go_wp2_with fail
            go_quiet (fail)
            go_wp2
            go_quiet (fail)
            go_wp2
            go_roundw
            case rel => exact ⟨n + 1, by omega, by omega, by go_num, (by first | exact ⟨_, rfl⟩ | exact ⟨_, World.drewN_drewN _ _ _⟩ | exact ⟨_, (World.drewN_drewN _ _ _).trans (World.drewN_drewN _ _ _)⟩), HB⟩
            case measure => simp [intOf]; omega
      · have heq : ((n : Int) == (m.length : Int)) = true := by simp; omega
        have e := alikeN_of l m n (by omega) (by omega) HA.out (fun _ _ => by omega)
        have HG : Hid (cmpL l m = 1) := hd (by rw [cmpL_out l m (by omega)]; unfold cmpI; rw [if_neg (by omega), if_pos (by omega)])
        clear HA e
        go_wp2
        go_ret
        exact ret_quiet (int_eq (by rw [HG.out])) (by first | exact ⟨_, rfl⟩ | exact ⟨_, World.drewN_drewN _ _ _⟩ | exact ⟨_, (World.drewN_drewN _ _ _).trans (World.drewN_drewN _ _ _)⟩)
    · have e := alikeN_of l m n (by omega) (by omega) HA.out (fun _ _ => by omega)
      by_cases h2 : l.length < m.length
      · have HG : Hid (cmpL l m = -1) := hd (by rw [cmpL_out l m (by omega)]; unfold cmpI; rw [if_pos (by omega)])
        clear HA e
        go_wp2
        go_ret
        exact ret_quiet (int_eq (by rw [HG.out])) (by first | exact ⟨_, rfl⟩ | exact ⟨_, World.drewN_drewN _ _ _⟩ | exact ⟨_, (World.drewN_drewN _ _ _).trans (World.drewN_drewN _ _ _)⟩)
      · have HG : Hid (cmpL l m = 0) := hd (by rw [cmpL_out l m (by omega)]; unfold cmpI; rw [if_neg (by omega), if_neg (by omega)])
        clear HA e
        go_wp2
        go_ret
        exact ret_quiet (int_eq (by rw [HG.out])) (by first | exact ⟨_, rfl⟩ | exact ⟨_, World.drewN_drewN _ _ _⟩ | exact ⟨_, (World.drewN_drewN _ _ _).trans (World.drewN_drewN _ _ _)⟩)

end Go.Proofs.Ytpjibfopfdbnjaa
