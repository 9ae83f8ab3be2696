/- slices.Grow, slices.Concat, fresh, and the document's Copy. -/
import Derived.Test.YtnbcnljegkemiaaDoorGLive
import Derived.Lib.AppendZeros
namespace Go.Proofs.YtnbcnljegkemiaaDoor
open Go.RowKit
open Go.WideShapes (add_plain)

theorem copy_any (A : Option Addr) (l : List Int) (n c : Nat) (w : World) (hn : l.length = n) (hl : n ≤ 1000) (hp : VL w w.heap.size A (rv l)) :
    Calls Tryd.prog 10 #[.slice A n c] w (NewI w l) := by
  have HP := hd hp
  have HN := hd (show (rv l).length = n by rw [rv_len]; exact hn)
  clear hp hn
  go_enter Tryd.func10, Tryd.ntmps10
  go_wp2_with (at_builtin; refine wpList_append_V runeElem (by decide) w rfl _ _ rfl w.heap.size (.slice none 0 0) [] (rv l) rfl (OwnV.nil _ _) A n c w.heap.size rfl HN.out HP.out (rv_one l) (by have := HN.out; simp; omega) (Nat.le_refl _) ?_; intro v' w1 ho1 hg1)
  go_ret
  exact ⟨v', rfl, by simpa using ho1, hg1.below _ _ (Nat.le_refl _) (Nat.le_refl _) (Below.refl _ _)⟩
theorem fresh_any (A : Option Addr) (l : List Int) (n c : Nat) (w : World) (hn : l.length = n) (hl : n ≤ 1000) (hp : VL w w.heap.size A (rv l)) :
    Calls Tryd.prog 28 #[.slice A n c] w (NewI w l) := by
  have HP := hd hp
  have HN := hd (show (rv l).length = n by rw [rv_len]; exact hn)
  have hmk := fun W => run_mk_rune n (by omega) W
  clear hp hn
  go_enter Tryd.func28, Tryd.ntmps28
  go_wp2_with (at_builtin; refine wpList_append_V runeElem (by decide) _ rfl (.tmp 5) (.tmp 6) rfl w.heap.size (.slice (some ⟨w.heap.size, 0, none⟩) 0 n) [] (rv l) rfl (OwnV.made _ _ _ _ _ (by omega) (Nat.le_refl _)) A n c w.heap.size rfl HN.out (HP.out.below ((Below.refl _ _).alloc (Nat.le_refl _) _)) (rv_one l) (by have := HN.out; simp; omega) (by simp) ?_; intro v' w1 ho1 hg1)
  go_ret
  exact ⟨v', rfl, by simpa using ho1, hg1.below _ _ (Nat.le_refl _) (by simp) ((Below.refl _ _).alloc (Nat.le_refl _) _)⟩

theorem run_zeros (n : Nat) (h0 : 0 < n) (hn : n ≤ 100000) (w : World) (ty : TypeId) : ∃ cap cells, (Builtin.append_ #[22, 3] ty #[.slice none 0 0, .int .i64 n]).run Tryd.prog w = .ok (.slice (some ⟨w.heap.size, 0, none⟩) n cap) (w.drew.alloc (.cells cells 21)) ∧ n ≤ cap ∧ cap ≤ maxLen ∧ cells.size = cap := by
  obtain ⟨i0, hi, hz0, hz1, hz2⟩ := info_parts runeInfo
  have hc := grownCap_ge w n 0 21
  refine ⟨_, _, Lib.run_append_nil_zeros w 22 3 ty 21 i0 _ .i64 .i64 Tryd.underlying22 Tryd.underlying3 hi hz0 n h0 (by omega) (by omega) (by rw [hz2]; omega), hc, grownCap_le_maxLen w n 0 _ (by unfold maxLen; omega), ?_⟩
  simp [Builtin.zeroCells, Value.cells]
  omega

theorem grow_any (n : Nat) (w : World) (hn : n ≤ 100000) : Calls Tryd.prog 37 #[.slice none 0 0, .int .i64 n] w (NewI w []) := by
  by_cases h0 : 0 < n
  · obtain ⟨cap, cells, hrun, h1, h2, h3⟩ := run_zeros n h0 hn w 22
    have H3 := hd h3
    have HRun := hd hrun
    have h0i : (0 : Int) < n := by omega
    clear h3 hrun
    go_enter Tryd.func37, Tryd.ntmps37
    go_wp2_with (at_builtin; refine Lib.wpList_append_run _ rfl (.tmp 20) (.tmp 21) _ _ rfl (.slice none 0 0) (.int .i64 n) rfl rfl _ _ HRun.out ?_)
    go_ret
    exact ⟨_, rfl, OwnV.of_own (World.ownsRow_made w.drew cells cap (Nat.le_refl _) h2 (by rw [H3.out]; simp)) rfl, ((below_drewN (Below.refl _ _) 1).alloc (Nat.le_refl _) _)⟩
  · obtain rfl : n = 0 := by omega
    go_enter Tryd.func37, Tryd.ntmps37
    go_wp2
    go_ret
    exact ⟨_, rfl, OwnV.nil _ _, Below.refl _ _⟩

/-- Texts one behind the other. -/
def catL (L : Nat → List Int) : Nat → List Int
  | 0 => []
  | k + 1 => catL L k ++ L k
theorem catL_len (L : Nat → List Int) (N : Nat) (h : ∀ k, k < N → (L k).length ≤ 1000) (k : Nat) (hk : k ≤ N) : (catL L k).length ≤ k * 1000 := by
  induction k with
  | zero => simp [catL]
  | succ k ih =>
    have := ih (by omega)
    have := h k (by omega)
    simp [catL]; omega

set_option maxHeartbeats 4000000 in
theorem concat_any (b o N c : Nat) (As : Nat → Option Addr) (L : Nat → List Int) (cs : Nat → Nat) (w : World) (hN : N ≤ 10) (hlen : ∀ k, k < N → (L k).length ≤ 1000) (hcell : ∀ k, k < N → w.cell? ⟨b, o + k, none⟩ = some (.slice (As k) (L k).length (cs k))) (hb : b < w.heap.size)
    (hv : ∀ k, k < N → VL w w.heap.size (As k) (rv (L k))) : Calls Tryd.prog 26 #[.slice (some ⟨b, o, none⟩) N c] w (NewI w (catL L N)) := by
  have HL := hd hlen
  have HC := hd hcell
  have HV := hd hv
  have HT := hd (catL_len L N hlen)
  clear hlen hcell hv
  go_enter Tryd.func26, Tryd.ntmps26
  go_wp2
  go_loop [3, 11] (fun s i => ∃ k : Nat, k ≤ N ∧ i = .int .i64 k ∧ s = .int .i64 (catL L k).length) (fun _ i => N - (intOf i).toNat)
  case atStart => exact ⟨0, Nat.zero_le _, rfl, rfl⟩
  case round =>
    obtain ⟨k, hk, rfl, rfl⟩ := hrel
    have ht := HT.out k hk
    have ht2 : k * 1000 ≤ 10000 := by omega
    by_cases hlt : k < N
    · have hc := HC.out k hlt
      have hl := HL.out k hlt
      have HX := hd (show ((catL L (k + 1)).length : Int) = (catL L k).length + (L k).length by simp [catL])
      go_wp2
      go_round
      case rel => exact ⟨k + 1, by omega, by go_num, by rw [HX.out]⟩
      case measure => simp [intOf]; omega
    · obtain rfl : k = N := by omega
      clear hlt
      go_wp2_with fail
      refine (grow_any (catL L k).length w (by omega)).mono ?_
      rintro e w1 ⟨v1, rfl, ho1, hb1⟩
      have HO1 := hd (show OwnV 21 w1 w.heap.size v1 (rv (catL L 0)) from ho1)
      clear ho1
      go_wp2_with fail
      go_loopw [6, 27] (fun v i wr => ∃ j : Nat, j ≤ k ∧ i = .int .i64 j ∧ Hid (OwnV 21 wr w.heap.size v (rv (catL L j))) ∧ Below w.heap.size w wr) (fun _ i _ => k - (intOf i).toNat)
      case atStart => exact ⟨0, Nat.zero_le _, rfl, HO1, hb1⟩
      case round =>
        obtain ⟨j, hj, rfl, ho, hbr⟩ := hrel
        by_cases hlt : j < k
        · have hc := (hbr.cell (p := ⟨b, o + j, none⟩) hb).trans (HC.out j hlt)
          have HVj := hd ((HV.out j hlt).below hbr)
          have hl := HL.out j hlt
          have htj := HT.out j hj
          have hl2 : (rv (catL L j)).length + (rv (L j)).length ≤ 100000 := by rw [rv_len, rv_len]; omega
          go_wp2_with (at_builtin; refine wpList_append_V runeElem (by decide) _ rfl (.tmp 31) (.tmp 32) rfl w.heap.size _ (rv (catL L j)) (rv (L j)) rfl ho.out (As j) (L j).length (cs j) w.heap.size rfl (rv_len _) HVj.out (rv_one _) hl2 hbr.size ?_; intro v2 w2 ho2 hg2)
          have HO2 := hd (show OwnV 21 w2 w.heap.size v2 (rv (catL L (j + 1))) by rw [catL, rv_append]; exact ho2)
          have hb2 := hg2.below w.heap.size w (Nat.le_refl _) hbr.size hbr
          clear ho2
          go_roundw
          case rel => exact ⟨j + 1, by omega, by go_num, HO2, hb2⟩
          case measure => simp [intOf]; omega
        · obtain rfl : j = k := by omega
          go_wp2
          go_ret
          exact ⟨_, rfl, ho.out, hbr⟩

end Go.Proofs.YtnbcnljegkemiaaDoor
