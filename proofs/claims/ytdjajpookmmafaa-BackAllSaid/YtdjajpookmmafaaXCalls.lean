/- within, Small, stand, plus, by, With, slices.Clone, slices.Grow and slices.Concat of numbers. -/
import Derived.Test.YtdjajpookmmafaaXText
import Derived.Test.YtdjajpookmmafaaIBase
import Derived.Test.YtdjajpookmmafaaIBase
import Derived.Lib.AppendZeros
import Derived.Lib.SliceRun
namespace Go.Proofs.Ytdjajpookmmafaa
open Go.RowKit
open Go.WideShapes (add_plain)

set_option maxHeartbeats 2000000 in
theorem within_any (A : Option Addr) (l : List Int) (n c : Nat) (w : World) (hn : l.length = n) (hl : n ≤ 9223372036854775807) (hp : IL w w.heap.size A l) :
    Calls Try.prog 39 #[.slice A n c] w (Quiet (.bool (smallI l)) w) := by
  have HP := hd hp
  have HN := hd hn
  clear hp hn
  go_enter Try.func39, Try.ntmps39
  go_wp2
  go_loopw [7] (fun i wr => ∃ k : Nat, k ≤ n ∧ i = .int .i64 k ∧ (∃ m, wr = w.drewN m) ∧ Hid (∀ j, j < k → 0 ≤ iAt l j ∧ iAt l j ≤ 1048576)) (fun i _ => n - (intOf i).toNat)
  case atStart => exact ⟨0, Nat.zero_le _, rfl, ⟨0, rfl⟩, fun j hj => absurd hj (Nat.not_lt_zero _)⟩
  case round =>
    obtain ⟨k, hk, rfl, ⟨kd, rfl⟩, HA⟩ := hrel
    by_cases hlt : k < n
    · obtain ⟨b1, o1, rfl, hl1, c1⟩ := HP.out.at_ (show k < l.length by have := HN.out; omega)
      by_cases h1 : iAt l k < 0
      · have HF := hd (smallI_no l k (by have := HN.out; omega) (by omega))
        clear HA
        go_wp2
        go_ret
        exact ret_quiet (bool_eq (by rw [HF.out])) (by first | exact ⟨_, rfl⟩ | exact ⟨_, World.drewN_drewN _ _ _⟩ | exact ⟨_, (World.drewN_drewN _ _ _).trans (World.drewN_drewN _ _ _)⟩)
      · by_cases h2 : 1048576 < iAt l k
        · have HF := hd (smallI_no l k (by have := HN.out; omega) (by omega))
          clear HA
          go_wp2
          go_ret
          exact ret_quiet (bool_eq (by rw [HF.out])) (by first | exact ⟨_, rfl⟩ | exact ⟨_, World.drewN_drewN _ _ _⟩ | exact ⟨_, (World.drewN_drewN _ _ _).trans (World.drewN_drewN _ _ _)⟩)
        · have HB := one_more (p := fun j => 0 ≤ iAt l j ∧ iAt l j ≤ 1048576) HA ⟨by omega, by omega⟩
          clear HA
          go_wp2
          go_roundw
          case rel => exact ⟨k + 1, by omega, by first | go_num | rfl, (by first | exact ⟨_, rfl⟩ | exact ⟨_, World.drewN_drewN _ _ _⟩ | exact ⟨_, (World.drewN_drewN _ _ _).trans (World.drewN_drewN _ _ _)⟩), HB⟩
          case measure => first | (simp [intOf]; done) | (simp [intOf]; omega)
    · have HF := hd ((smallI_iff l).2 (fun j hj => HA.out j (by have := HN.out; omega)))
      clear HA
      go_wp2
      go_ret
      exact ret_quiet (bool_eq (by rw [HF.out])) (by first | exact ⟨_, rfl⟩ | exact ⟨_, World.drewN_drewN _ _ _⟩ | exact ⟨_, (World.drewN_drewN _ _ _).trans (World.drewN_drewN _ _ _)⟩)
set_option maxRecDepth 4000 in
theorem stand_any (A B : Option Addr) (l m : List Int) (n k c d : Nat) (w : World) (hn : l.length = n) (hk : m.length = k) (hl : n ≤ 1000000) (hm : k ≤ 1000000) (hp : IL w w.heap.size A l) (hq : IL w w.heap.size B m) :
    Calls Try.prog 41 #[.slice A n c, .slice B k d] w (Quiet (.int .i64 (standL l m)) w) := by
  subst hn hk
  have HL := hd (fun j => ileft_any A B l m c d (w.drewN j) (by omega) (by omega) hp hq)
  have HS := hd (fun j => isame_any A B l m c d (w.drewN j) (by omega) (by omega) hp hq)
  have HA := hd (fun j => above_any A B l m c d (w.drewN j) (by omega) (by omega) hp hq)
  clear hp hq
  rcases standL_cases l m with ⟨h0, h1, h2, h3⟩ | ⟨h0, h1, h2, h3⟩ | ⟨h0, h1, h2, h3⟩ | ⟨h0, h1, h2, h3⟩
  all_goals
    rw [h1] at HL
    rw [h2] at HS
    rw [h3] at HA
    have H0 := hd h0
    clear h0 h1 h2 h3
    go_enter Try.func41, Try.ntmps41
    go_wp2_with (first
      | (go_at_call 57; refine Calls.mono (HL.out 0) ?_; rintro e w1 ⟨rfl, j1, rfl⟩)
      | (go_at_call 22; refine Calls.mono (HS.out _) ?_; rintro e w1 ⟨rfl, j2, rfl⟩)
      | (go_at_call 58; refine Calls.mono (HA.out _) ?_; rintro e w1 ⟨rfl, j3, rfl⟩))
    go_ret
    exact ret_quiet (int_eq (by rw [H0.out])) (by first | exact ⟨_, rfl⟩ | (simp only [World.drewN_drewN]; exact ⟨_, rfl⟩))

set_option maxRecDepth 4000 in
theorem xmade_none : madeCells #[Value.int .i64 0] 0 = #[] := by simp [madeCells, Array.range]
set_option maxRecDepth 4000 in
theorem xclone_any (A : Option Addr) (l : List Int) (n c : Nat) (w : World) (hn : l.length = n) (hl : n ≤ 1000) (hp : IL w w.heap.size A l) :
    Calls Try.prog 45 #[.slice A n c] w (NewP w l) := by
  have HP := hd hp
  have HN := hd hn
  clear hp hn
  rcases A with _ | a
  · have hnil := fun W => Go.Lib.run_eql_slice_nil (P := Try.prog) W 22 3 none n c 0 0 Try.underlying22
    have HL := hd (show l = [] by
      rcases Classical.em (l = []) with h | h
      · exact h
      · obtain ⟨_, _, h, _⟩ := HP.out h; cases h)
    go_enter Try.func45, Try.ntmps45
    go_wp2
    go_ret
    exact ⟨_, rfl, by rw [HL.out]; exact OwnI.nil _ _, Below.refl _ _⟩
  · have hnil := fun W => Go.Lib.run_eql_slice_nil (P := Try.prog) W 22 3 (some a) n c 0 0 Try.underlying22
    go_enter Try.func45, Try.ntmps45
    have HO := hd (show OwnI (w.alloc (.cells #[] 3)) w.heap.size (.slice (some ⟨w.heap.size, 0, none⟩) 0 0) [] from xmade_none ▸ OwnI.made w w.heap.size 0 (by omega) (Nat.le_refl _))
    go_wp2_with (at_builtin; (refine wpList_append_L _ rfl (.tmp 5) (.tmp 6) rfl w.heap.size (.slice (some ⟨w.heap.size, 0, none⟩) 0 0) [] l rfl HO.out (some a) n c w.heap.size rfl HN.out (HP.out.below ((Below.refl _ _).alloc (Nat.le_refl _) _)) (by have := HN.out; simp; omega) (by simp) ?_; intro v' w1 ho1 hg1))
    go_ret
    exact ⟨v', rfl, by simpa using ho1, hg1.below _ _ (Nat.le_refl _) (by simp) ((Below.refl _ _).alloc (Nat.le_refl _) _)⟩

/-! Numbers added to a path's own copy. -/
set_option maxRecDepth 4000 in
set_option maxHeartbeats 2000000 in
theorem plus_any (A B : Option Addr) (l r : List Int) (n m k c d : Nat) (w : World) (hn : l.length = n) (hm : r.length = m) (hl : n ≤ 1000) (hk : m ≠ 0 → k + m ≤ n) (hL : ∀ j, j < n → -4000000 ≤ iAt l j ∧ iAt l j ≤ 4000000) (hR : ∀ j, j < m → -4000000 ≤ iAt r j ∧ iAt r j ≤ 4000000) (hp : IL w w.heap.size A l) (hq : IL w w.heap.size B r) :
    Calls Try.prog 40 #[.slice A n c, .int .i64 k, .slice B m d] w (NewP w (plusL l k r)) := by
  have HC := hd (xclone_any A l n c w hn hl hp)
  have HN := hd hn
  have HM := hd hm
  have HL := hd hL
  have HR := hd hR
  have HQ := hd hq
  have HPl := hd (fun j => plusL_len (r.take j) l k)
  clear hn hm hL hR hp hq
  go_enter Try.func40, Try.ntmps40
  go_wp2_with (go_at_call 45; refine Calls.mono HC.out ?_; rintro e w1 ⟨v1, rfl, ho, hb⟩; obtain ⟨A1, c1, rfl, h1, h2⟩ := ho.open_at n HN.out; have HO := hd ho; have HB := hd hb; clear h2 ho hb)
  go_loopw [14] (fun i wr => ∃ j : Nat, j ≤ m ∧ i = .int .i64 j ∧ Hid (OwnI wr w.heap.size (.slice A1 n c1) (plusL l k (r.take j))) ∧ Hid (Below w.heap.size w wr)) (fun i _ => m - (intOf i).toNat)
  case atStart => exact ⟨0, Nat.zero_le _, rfl, HO, HB⟩
  case round =>
    obtain ⟨j, hj, rfl, HOr, HBr⟩ := hrel
    by_cases hlt : j < m
    · have hk := hk (by omega)
      obtain ⟨b2, o2, rfl, hl2, e2⟩ := (HQ.out.below HBr.out).at_ (show j < r.length by have := HM.out; omega)
      obtain ⟨g, c2, e, g1, g2, g3, g4, g5, g6, g7⟩ := HOr.out.form (by rw [HPl.out, HN.out]; omega)
      rw [HPl.out, HN.out] at e
      injection e with ea _ ec
      subst ea ec
      have e3 := g5 (k + j) (by rw [HPl.out, HN.out]; omega)
      rw [plusL_next _ _ _ _ (by rw [List.length_take]; have := HM.out; omega)] at e3
      have e4 := g6 (k + j)
      have H7 := hd (g7 (k + j) (iAt l (k + j) + iAt r j))
      have b3 := HL.out (k + j) (by omega)
      have b4 := HR.out j hlt
      have HX := hd (show plusL l k (r.take (j + 1)) = (plusL l k (r.take j)).set (k + j) (iAt l (k + j) + iAt r j) by
        rw [plusL_take _ _ _ _ (by have := HM.out; omega), addL, plusL_next _ _ _ _ (by rw [List.length_take]; have := HM.out; omega)])
      have HB2 := hd (HBr.out.setCell g3 (p := ⟨g, k + j, none⟩) (.int .i64 (iAt l (k + j) + iAt r j)))
      clear g1 g2 g5 g6 g7
      go_wp2
      go_roundw
      case rel => exact ⟨j + 1, by omega, by first | go_num | rfl, hd (by rw [HX.out]; exact H7.out), HB2⟩
      case measure => first | (simp [intOf]; done) | (simp [intOf]; omega)
    · obtain rfl : j = m := by omega
      have HX := hd (show r.take j = r by rw [← HM.out, List.take_length])
      go_wp2
      go_ret
      exact ⟨_, rfl, by have := HOr.out; rwa [HX.out] at this, HBr.out⟩

/-! The document's: one number so much more. -/
set_option maxRecDepth 4000 in
theorem run_zeros (n : Nat) (h0 : 0 < n) (hn : n ≤ 10000) (w : World) (ty : TypeId) : ∃ cap cells, (Builtin.append_ #[22, 3] ty #[.slice none 0 0, .int .i64 n]).run Try.prog w = .ok (.slice (some ⟨w.heap.size, 0, none⟩) n cap) (w.drew.alloc (.cells cells 3)) ∧ n ≤ cap ∧ cap ≤ maxLen ∧ cells.size = cap := by
  obtain ⟨i0, hi, hz0, hz1, hz2⟩ := info_parts intInfo
  have hc := grownCap_ge w n 0 3
  refine ⟨_, _, Lib.run_append_nil_zeros w 22 3 ty 3 i0 _ .i64 .i64 Try.underlying22 Try.underlying3 hi hz0 n h0 (by omega) (by omega) (by rw [hz2]; omega), hc, grownCap_le_maxLen w n 0 _ (by unfold maxLen; omega), ?_⟩
  simp [Builtin.zeroCells, Value.cells]
  omega

set_option maxRecDepth 4000 in
theorem grow_any (n : Nat) (w : World) (hn : n ≤ 10000) : Calls Try.prog 59 #[.slice none 0 0, .int .i64 n] w (NewP w []) := by
  by_cases h0 : 0 < n
  · obtain ⟨cap, cells, hrun, h1, h2, h3⟩ := run_zeros n h0 hn w 22
    have H3 := hd h3
    have HRun := hd hrun
    have h0i : (0 : Int) < n := by omega
    clear h3 hrun
    go_enter Try.func59, Try.ntmps59
    go_wp2_with (at_builtin; refine Lib.wpList_append_run _ rfl (.tmp 20) (.tmp 21) _ _ rfl (.slice none 0 0) (.int .i64 n) rfl rfl _ _ HRun.out ?_)
    go_ret
    exact ⟨_, rfl, OwnI.of_own (World.ownsRow_made w.drew cells cap (Nat.le_refl _) h2 (by rw [H3.out]; simp)) rfl, ((below_drewN (Below.refl _ _) 1).alloc (Nat.le_refl _) _)⟩
  · obtain rfl : n = 0 := by omega
    go_enter Try.func59, Try.ntmps59
    go_wp2
    go_ret
    exact ⟨_, rfl, OwnI.nil _ _, Below.refl _ _⟩

/-- Lists one behind the other. -/
def catL (L : Nat → List Int) : Nat → List Int
  | 0 => []
  | k + 1 => catL L k ++ L k
set_option maxRecDepth 4000 in
theorem catL_len (L : Nat → List Int) (N : Nat) (h : ∀ k, k < N → (L k).length ≤ 1000) (k : Nat) (hk : k ≤ N) : (catL L k).length ≤ k * 1000 := by
  induction k with
  | zero => simp [catL]
  | succ k ih =>
    have := ih (by omega)
    have := h k (by omega)
    simp [catL]; omega

set_option maxRecDepth 4000 in
set_option maxHeartbeats 4000000 in
theorem concat_any (b o N c : Nat) (As : Nat → Option Addr) (L : Nat → List Int) (cs : Nat → Nat) (w : World) (hN : N ≤ 4) (hlen : ∀ k, k < N → (L k).length ≤ 1000) (hcell : ∀ k, k < N → w.cell? ⟨b, o + k, none⟩ = some (.slice (As k) (L k).length (cs k))) (hb : b < w.heap.size)
    (hv : ∀ k, k < N → IL w w.heap.size (As k) (L k)) : Calls Try.prog 42 #[.slice (some ⟨b, o, none⟩) N c] w (NewP w (catL L N)) := by
  have HL := hd hlen
  have HC := hd hcell
  have HV := hd hv
  have HT := hd (catL_len L N hlen)
  clear hlen hcell hv
  go_enter Try.func42, Try.ntmps42
  go_wp2
  go_loop [3, 11] (fun s i => ∃ k : Nat, k ≤ N ∧ i = .int .i64 k ∧ s = .int .i64 (catL L k).length) (fun _ i => N - (intOf i).toNat)
  case atStart => exact ⟨0, Nat.zero_le _, rfl, rfl⟩
  case round =>
    obtain ⟨k, hk, rfl, rfl⟩ := hrel
    have ht := HT.out k hk
    have ht2 : k * 1000 ≤ 4000 := by omega
    by_cases hlt : k < N
    · have hc := HC.out k hlt
      have hl := HL.out k hlt
      have HX := hd (show ((catL L (k + 1)).length : Int) = (catL L k).length + (L k).length by simp [catL])
      go_wp2
      go_round
      case rel => exact ⟨k + 1, by omega, by go_num, by rw [HX.out]⟩
      case measure => simp [intOf]; omega
    · obtain rfl : k = N := by omega
      clear hlt
      go_wp2_with fail
      refine (grow_any (catL L k).length w (by omega)).mono ?_
      rintro e w1 ⟨v1, rfl, ho1, hb1⟩
      have HO1 := hd (show OwnI w1 w.heap.size v1 (catL L 0) from ho1)
      clear ho1
      go_wp2_with fail
      go_loopw [6, 27] (fun v i wr => ∃ j : Nat, j ≤ k ∧ i = .int .i64 j ∧ Hid (OwnI wr w.heap.size v (catL L j)) ∧ Below w.heap.size w wr) (fun _ i _ => k - (intOf i).toNat)
      case atStart => exact ⟨0, Nat.zero_le _, rfl, HO1, hb1⟩
      case round =>
        obtain ⟨j, hj, rfl, ho, hbr⟩ := hrel
        by_cases hlt : j < k
        · have hc := (hbr.cell (p := ⟨b, o + j, none⟩) hb).trans (HC.out j hlt)
          have HVj := hd ((HV.out j hlt).below hbr)
          have hl := HL.out j hlt
          have htj := HT.out j hj
          have hl2 : (catL L j).length + (L j).length ≤ 10000 := by omega
          go_wp2_with (at_builtin; refine wpList_append_L _ rfl (.tmp 31) (.tmp 32) rfl w.heap.size _ (catL L j) (L j) rfl ho.out (As j) (L j).length (cs j) w.heap.size rfl rfl HVj.out hl2 hbr.size ?_; intro v2 w2 ho2 hg2)
          have HO2 := hd (show OwnI w2 w.heap.size v2 (catL L (j + 1)) from ho2)
          have hb2 := hg2.below w.heap.size w (Nat.le_refl _) hbr.size hbr
          clear ho2
          go_roundw
          case rel => exact ⟨j + 1, by omega, by go_num, HO2, hb2⟩
          case measure => simp [intOf]; omega
        · obtain rfl : j = k := by omega
          go_wp2
          go_ret
          exact ⟨_, rfl, ho.out, hbr⟩

end Go.Proofs.Ytdjajpookmmafaa
