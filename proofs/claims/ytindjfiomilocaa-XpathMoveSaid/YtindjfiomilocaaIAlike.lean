/- alike, Check, Same, Above, Left and Compare, and the document's own_i, answer what the plain functions say; memory stays as it was. -/
import Derived.Test.YtindjfiomilocaaIInts
namespace Go.Proofs.Ytindjfiomilocaa
open Go.RowKit

set_option maxHeartbeats 2000000 in
theorem palike_any (A B : Option Addr) (l m : List Int) (c d : Nat) (w : World) (hl : l.length ≤ 9223372036854775807) (hm : m.length ≤ 9223372036854775807) (hp : IL w w.heap.size A l) (hq : IL w w.heap.size B m) :
    Calls Try.prog 29 #[.slice A l.length c, .slice B m.length d] w (Quiet (.int .i64 (alikeN l m)) w) := by
  have HP := hd hp
  have HQ := hd hq
  clear hp hq
  by_cases hml : m.length < l.length
  all_goals
    go_enter Try.func29, Try.ntmps29
    go_wp2
    go_loopw [13] (fun i wr => ∃ n : Nat, n ≤ l.length ∧ n ≤ m.length ∧ i = .int .i64 n ∧ (∃ k, wr = w.drewN k) ∧ Hid (∀ j, j < n → iAt l j = iAt m j)) (fun i _ => l.length - (intOf i).toNat)
    case atStart => exact ⟨0, Nat.zero_le _, Nat.zero_le _, rfl, ⟨0, rfl⟩, fun j hj => absurd hj (Nat.not_lt_zero _)⟩
    case round =>
      obtain ⟨n, hn1, hn2, rfl, ⟨kd, rfl⟩, HA⟩ := hrel
      by_cases hlt : n < l.length ∧ n < m.length
      · obtain ⟨h1, h2⟩ := hlt
        obtain ⟨b1, o1, rfl, hl1, c1⟩ := HP.out.at_ h1
        obtain ⟨b2, o2, rfl, hl2, c2⟩ := HQ.out.at_ h2
        by_cases hs : iAt l n = iAt m n
        · have HB := one_more (p := fun j => iAt l j = iAt m j) HA hs
          have hx : (iAt l n != iAt m n) = false := by simp [hs]
          clear HA hs
          go_wp2_with fail
          go_quiet (fail)
          go_wp2
          go_roundw
          case rel => exact ⟨n + 1, by omega, by omega, by go_num, (by first | exact ⟨_, rfl⟩ | exact ⟨_, World.drewN_drewN _ _ _⟩ | exact ⟨_, (World.drewN_drewN _ _ _).trans (World.drewN_drewN _ _ _)⟩), HB⟩
          case measure => simp [intOf]; omega
        · have HF := hd (alikeN_of l m n (by omega) (by omega) HA.out (fun _ _ => hs))
          have hx : (iAt l n != iAt m n) = true := by simp [hs]
          clear HA hs
          go_wp2_with fail
          go_quiet (fail)
          go_wp2
          go_ret
          exact ret_quiet (int_eq (by rw [HF.out])) (by first | exact ⟨_, rfl⟩ | exact ⟨_, World.drewN_drewN _ _ _⟩ | exact ⟨_, (World.drewN_drewN _ _ _).trans (World.drewN_drewN _ _ _)⟩)
      · have HF := hd (alikeN_of l m n (by omega) (by omega) HA.out (fun _ _ => by omega))
        first | (have hx : ¬ n < m.length := by omega) | skip
        first | (have hy : ¬ n < l.length := by omega) | skip
        clear HA
        go_wp2
        go_ret
        exact ret_quiet (int_eq (by rw [HF.out]; omega)) ⟨kd, rfl⟩

end Go.Proofs.Ytindjfiomilocaa
