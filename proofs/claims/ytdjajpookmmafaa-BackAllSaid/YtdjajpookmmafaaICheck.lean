/- Check and the document's answer what the plain function says; memory stays as it was. -/
import Derived.Test.YtdjajpookmmafaaIBase
namespace Go.Proofs.Ytdjajpookmmafaa
open Go.RowKit

theorem icheck_ok (l : List Int) (h : ∀ j, j < l.length → 0 ≤ iAt l j) : checkL l = 0 := by
  unfold checkL
  rw [if_pos]
  rw [List.all_eq_true]
  intro x hx
  obtain ⟨j, hj, rfl⟩ := List.mem_iff_getElem.1 hx
  rw [← iAt_eq l j hj]
  exact decide_eq_true (h j hj)
set_option maxRecDepth 4000 in
theorem icheck_not (l : List Int) (n : Nat) (hn : n < l.length) (h : iAt l n < 0) : checkL l = 5 := by
  unfold checkL
  rw [if_neg]
  rw [List.all_eq_true]
  intro hx
  have := hx (iAt l n) (by rw [iAt_eq l n hn]; exact List.getElem_mem hn)
  have := of_decide_eq_true this
  omega

set_option maxRecDepth 4000 in
set_option maxHeartbeats 2000000 in
theorem icheck_any (A : Option Addr) (l : List Int) (c : Nat) (w : World) (hl : l.length ≤ 9223372036854775807) (hp : IL w w.heap.size A l) :
    Calls Try.prog 20 #[.slice A l.length c] w (Quiet (.int .i64 (checkL l)) w) := by
  have HP := hd hp
  clear hp
  go_enter Try.func20, Try.ntmps20
  go_wp2
  go_loopw [7] (fun i wr => ∃ n : Nat, n ≤ l.length ∧ i = .int .i64 n ∧ (∃ k, wr = w.drewN k) ∧ Hid (∀ j, j < n → 0 ≤ iAt l j)) (fun i _ => l.length - (intOf i).toNat)
  case atStart => exact ⟨0, Nat.zero_le _, rfl, ⟨0, rfl⟩, fun j hj => absurd hj (Nat.not_lt_zero _)⟩
  case round =>
    obtain ⟨n, hn1, rfl, ⟨kd, rfl⟩, HA⟩ := hrel
    by_cases hlt : n < l.length
    · obtain ⟨b1, o1, rfl, hl1, c1⟩ := HP.out.at_ hlt
      by_cases hs : iAt l n < 0
      · have HF := hd (icheck_not l n hlt hs)
        clear HA
        go_wp2
        go_ret
        exact ret_quiet (int_eq (by rw [HF.out])) (by first | exact ⟨_, rfl⟩ | exact ⟨_, World.drewN_drewN _ _ _⟩ | exact ⟨_, (World.drewN_drewN _ _ _).trans (World.drewN_drewN _ _ _)⟩)
      · have HB := one_more (p := fun j => 0 ≤ iAt l j) HA (by omega)
        clear HA
        go_wp2
        go_roundw
        case rel => exact ⟨n + 1, by omega, by go_num, (by first | exact ⟨_, rfl⟩ | exact ⟨_, World.drewN_drewN _ _ _⟩ | exact ⟨_, (World.drewN_drewN _ _ _).trans (World.drewN_drewN _ _ _)⟩), HB⟩
        case measure => simp [intOf]; omega
    · have HF := hd (icheck_ok l (fun j hj => HA.out j (by omega)))
      clear HA
      go_wp2
      go_ret
      exact ret_quiet (int_eq (by rw [HF.out])) (by first | exact ⟨_, rfl⟩ | exact ⟨_, World.drewN_drewN _ _ _⟩ | exact ⟨_, (World.drewN_drewN _ _ _).trans (World.drewN_drewN _ _ _)⟩)
end Go.Proofs.Ytdjajpookmmafaa
