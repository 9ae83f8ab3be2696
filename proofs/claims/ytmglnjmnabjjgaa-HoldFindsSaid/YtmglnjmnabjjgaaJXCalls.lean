/- within, Small, stand, plus, by, With, slices.Clone, slices.Grow and slices.Concat of numbers. Operations in memory; calls on worlds that hold more; two lists one behind the other; what stands behind a place. -/
import Derived.Test.YtmglnjmnabjjgaaJKCmp
import Derived.Lib.AppendZeros
import Derived.Lib.SliceRun
import Derived.Test.YtmglnjmnabjjgaaJGText
import Derived.StillTailTactics
import Derived.Deep.Cut
import Derived.Deep.RegionHeld3
import Derived.Deep.RegionLaw
import Derived.BigRegion
namespace Go.Proofs.Ytmglnjmnabjjgaa
open Go.RowKit
open Go.WideShapes (add_plain)

set_option maxHeartbeats 2000000 in
theorem within_any (A : Option Addr) (l : List Int) (n c : Nat) (w : World) (hn : l.length = n) (hl : n ≤ 9223372036854775807) (hp : IL w w.heap.size A l) :
    Calls Try.prog 53 #[.slice A n c] w (Quiet (.bool (smallI l)) w) := by
  have HP := hd hp
  have HN := hd hn
  clear hp hn
  go_enter Try.func53, Try.ntmps53
  go_wp2
  go_loopw [7] (fun i wr => ∃ k : Nat, k ≤ n ∧ i = .int .i64 k ∧ (∃ m, wr = w.drewN m) ∧ Hid (∀ j, j < k → 0 ≤ iAt l j ∧ iAt l j ≤ 1048576)) (fun i _ => n - (intOf i).toNat)
  case atStart => exact ⟨0, Nat.zero_le _, rfl, ⟨0, rfl⟩, fun j hj => absurd hj (Nat.not_lt_zero _)⟩
  case round =>
    obtain ⟨k, hk, rfl, ⟨kd, rfl⟩, HA⟩ := hrel
    by_cases hlt : k < n
    · obtain ⟨b1, o1, rfl, hl1, c1⟩ := HP.out.at_ (show k < l.length by have := HN.out; omega)
      by_cases h1 : iAt l k < 0
      · have HF := hd (smallI_no l k (by have := HN.out; omega) (by omega))
        clear HA
        go_wp2
        go_ret
        exact ret_quiet (bool_eq (by rw [HF.out])) (by first | exact ⟨_, rfl⟩ | exact ⟨_, World.drewN_drewN _ _ _⟩ | exact ⟨_, (World.drewN_drewN _ _ _).trans (World.drewN_drewN _ _ _)⟩)
      · by_cases h2 : 1048576 < iAt l k
        · have HF := hd (smallI_no l k (by have := HN.out; omega) (by omega))
          clear HA
          go_wp2
          go_ret
          exact ret_quiet (bool_eq (by rw [HF.out])) (by first | exact ⟨_, rfl⟩ | exact ⟨_, World.drewN_drewN _ _ _⟩ | exact ⟨_, (World.drewN_drewN _ _ _).trans (World.drewN_drewN _ _ _)⟩)
        · have HB := one_more (p := fun j => 0 ≤ iAt l j ∧ iAt l j ≤ 1048576) HA ⟨by omega, by omega⟩
          clear HA
          go_wp2
          go_roundw
          case rel => exact ⟨k + 1, by omega, by first | go_num | rfl, (by first | exact ⟨_, rfl⟩ | exact ⟨_, World.drewN_drewN _ _ _⟩ | exact ⟨_, (World.drewN_drewN _ _ _).trans (World.drewN_drewN _ _ _)⟩), HB⟩
          case measure => first | (simp [intOf]; done) | (simp [intOf]; omega)
    · have HF := hd ((smallI_iff l).2 (fun j hj => HA.out j (by have := HN.out; omega)))
      clear HA
      go_wp2
      go_ret
      exact ret_quiet (bool_eq (by rw [HF.out])) (by first | exact ⟨_, rfl⟩ | exact ⟨_, World.drewN_drewN _ _ _⟩ | exact ⟨_, (World.drewN_drewN _ _ _).trans (World.drewN_drewN _ _ _)⟩)
set_option maxRecDepth 4000 in
theorem stand_any (A B : Option Addr) (l m : List Int) (n k c d : Nat) (w : World) (hn : l.length = n) (hk : m.length = k) (hl : n ≤ 1000000) (hm : k ≤ 1000000) (hp : IL w w.heap.size A l) (hq : IL w w.heap.size B m) :
    Calls Try.prog 55 #[.slice A n c, .slice B k d] w (Quiet (.int .i64 (standL l m)) w) := by
  subst hn hk
  have HL := hd (fun j => ileft_any A B l m c d (w.drewN j) (by omega) (by omega) hp hq)
  have HS := hd (fun j => isame_any A B l m c d (w.drewN j) (by omega) (by omega) hp hq)
  have HA := hd (fun j => above_any A B l m c d (w.drewN j) (by omega) (by omega) hp hq)
  clear hp hq
  rcases standL_cases l m with ⟨h0, h1, h2, h3⟩ | ⟨h0, h1, h2, h3⟩ | ⟨h0, h1, h2, h3⟩ | ⟨h0, h1, h2, h3⟩
  all_goals
    rw [h1] at HL
    rw [h2] at HS
    rw [h3] at HA
    have H0 := hd h0
    clear h0 h1 h2 h3
    go_enter Try.func55, Try.ntmps55
    go_wp2_with (first
      | (go_at_call 66; refine Calls.mono (HL.out 0) ?_; rintro e w1 ⟨rfl, j1, rfl⟩)
      | (go_at_call 20; refine Calls.mono (HS.out _) ?_; rintro e w1 ⟨rfl, j2, rfl⟩)
      | (go_at_call 67; refine Calls.mono (HA.out _) ?_; rintro e w1 ⟨rfl, j3, rfl⟩))
    go_ret
    exact ret_quiet (int_eq (by rw [H0.out])) (by first | exact ⟨_, rfl⟩ | (simp only [World.drewN_drewN]; exact ⟨_, rfl⟩))

set_option maxRecDepth 4000 in
theorem xmade_none : madeCells #[Value.int .i64 0] 0 = #[] := by simp [madeCells, Array.range]
set_option maxRecDepth 4000 in
theorem xclone_any (A : Option Addr) (l : List Int) (n c : Nat) (w : World) (hn : l.length = n) (hl : n ≤ 1000) (hp : IL w w.heap.size A l) :
    Calls Try.prog 34 #[.slice A n c] w (NewP w l) := by
  have HP := hd hp
  have HN := hd hn
  clear hp hn
  rcases A with _ | a
  · have hnil := fun W => Go.Lib.run_eql_slice_nil (P := Try.prog) W 28 3 none n c 0 0 Try.underlying28
    have HL := hd (show l = [] by
      rcases Classical.em (l = []) with h | h
      · exact h
      · obtain ⟨_, _, h, _⟩ := HP.out h; cases h)
    go_enter Try.func34, Try.ntmps34
    go_wp2
    go_ret
    exact ⟨_, rfl, by rw [HL.out]; exact OwnI.nil _ _, Below.refl _ _⟩
  · have hnil := fun W => Go.Lib.run_eql_slice_nil (P := Try.prog) W 28 3 (some a) n c 0 0 Try.underlying28
    go_enter Try.func34, Try.ntmps34
    have HO := hd (show OwnI (w.alloc (.cells #[] 3)) w.heap.size (.slice (some ⟨w.heap.size, 0, none⟩) 0 0) [] from xmade_none ▸ OwnI.made w w.heap.size 0 (by omega) (Nat.le_refl _))
    go_wp2_with (at_builtin; (refine wpList_append_L _ rfl (.tmp 5) (.tmp 6) rfl w.heap.size (.slice (some ⟨w.heap.size, 0, none⟩) 0 0) [] l rfl HO.out (some a) n c w.heap.size rfl HN.out (HP.out.below ((Below.refl _ _).alloc (Nat.le_refl _) _)) (by have := HN.out; simp; omega) (by simp) ?_; intro v' w1 ho1 hg1))
    go_ret
    exact ⟨v', rfl, by simpa using ho1, hg1.below _ _ (Nat.le_refl _) (by simp) ((Below.refl _ _).alloc (Nat.le_refl _) _)⟩

/-! Numbers added to a path's own copy. -/
set_option maxRecDepth 4000 in
set_option maxHeartbeats 2000000 in
theorem plus_any (A B : Option Addr) (l r : List Int) (n m k c d : Nat) (w : World) (hn : l.length = n) (hm : r.length = m) (hl : n ≤ 1000) (hk : m ≠ 0 → k + m ≤ n) (hL : ∀ j, j < n → -4000000 ≤ iAt l j ∧ iAt l j ≤ 4000000) (hR : ∀ j, j < m → -4000000 ≤ iAt r j ∧ iAt r j ≤ 4000000) (hp : IL w w.heap.size A l) (hq : IL w w.heap.size B r) :
    Calls Try.prog 54 #[.slice A n c, .int .i64 k, .slice B m d] w (NewP w (plusL l k r)) := by
  have HC := hd (xclone_any A l n c w hn hl hp)
  have HN := hd hn
  have HM := hd hm
  have HL := hd hL
  have HR := hd hR
  have HQ := hd hq
  have HPl := hd (fun j => plusL_len (r.take j) l k)
  clear hn hm hL hR hp hq
  go_enter Try.func54, Try.ntmps54
  go_wp2_with (go_at_call 34; refine Calls.mono HC.out ?_; rintro e w1 ⟨v1, rfl, ho, hb⟩; obtain ⟨A1, c1, rfl, h1, h2⟩ := ho.open_at n HN.out; have HO := hd ho; have HB := hd hb; clear h2 ho hb)
  go_loopw [14] (fun i wr => ∃ j : Nat, j ≤ m ∧ i = .int .i64 j ∧ Hid (OwnI wr w.heap.size (.slice A1 n c1) (plusL l k (r.take j))) ∧ Hid (Below w.heap.size w wr)) (fun i _ => m - (intOf i).toNat)
  case atStart => exact ⟨0, Nat.zero_le _, rfl, HO, HB⟩
  case round =>
    obtain ⟨j, hj, rfl, HOr, HBr⟩ := hrel
    by_cases hlt : j < m
    · have hk := hk (by omega)
      obtain ⟨b2, o2, rfl, hl2, e2⟩ := (HQ.out.below HBr.out).at_ (show j < r.length by have := HM.out; omega)
      obtain ⟨g, c2, e, g1, g2, g3, g4, g5, g6, g7⟩ := HOr.out.form (by rw [HPl.out, HN.out]; omega)
      rw [HPl.out, HN.out] at e
      injection e with ea _ ec
      subst ea ec
      have e3 := g5 (k + j) (by rw [HPl.out, HN.out]; omega)
      rw [plusL_next _ _ _ _ (by rw [List.length_take]; have := HM.out; omega)] at e3
      have e4 := g6 (k + j)
      have H7 := hd (g7 (k + j) (iAt l (k + j) + iAt r j))
      have b3 := HL.out (k + j) (by omega)
      have b4 := HR.out j hlt
      have HX := hd (show plusL l k (r.take (j + 1)) = (plusL l k (r.take j)).set (k + j) (iAt l (k + j) + iAt r j) by
        rw [plusL_take _ _ _ _ (by have := HM.out; omega), addL, plusL_next _ _ _ _ (by rw [List.length_take]; have := HM.out; omega)])
      have HB2 := hd (HBr.out.setCell g3 (p := ⟨g, k + j, none⟩) (.int .i64 (iAt l (k + j) + iAt r j)))
      clear g1 g2 g5 g6 g7
      go_wp2
      go_roundw
      case rel => exact ⟨j + 1, by omega, by first | go_num | rfl, hd (by rw [HX.out]; exact H7.out), HB2⟩
      case measure => first | (simp [intOf]; done) | (simp [intOf]; omega)
    · obtain rfl : j = m := by omega
      have HX := hd (show r.take j = r by rw [← HM.out, List.take_length])
      go_wp2
      go_ret
      exact ⟨_, rfl, by have := HOr.out; rwa [HX.out] at this, HBr.out⟩

/-! The document's: one number so much more. -/
set_option maxRecDepth 4000 in
theorem run_zeros (n : Nat) (h0 : 0 < n) (hn : n ≤ 10000) (w : World) (ty : TypeId) : ∃ cap cells, (Builtin.append_ #[28, 3] ty #[.slice none 0 0, .int .i64 n]).run Try.prog w = .ok (.slice (some ⟨w.heap.size, 0, none⟩) n cap) (w.drew.alloc (.cells cells 3)) ∧ n ≤ cap ∧ cap ≤ maxLen ∧ cells.size = cap := by
  obtain ⟨i0, hi, hz0, hz1, hz2⟩ := info_parts intInfo
  have hc := grownCap_ge w n 0 3
  refine ⟨_, _, Lib.run_append_nil_zeros w 28 3 ty 3 i0 _ .i64 .i64 Try.underlying28 Try.underlying3 hi hz0 n h0 (by omega) (by omega) (by rw [hz2]; omega), hc, grownCap_le_maxLen w n 0 _ (by unfold maxLen; omega), ?_⟩
  simp [Builtin.zeroCells, Value.cells]
  omega

set_option maxRecDepth 4000 in
theorem grow_any (n : Nat) (w : World) (hn : n ≤ 10000) : Calls Try.prog 68 #[.slice none 0 0, .int .i64 n] w (NewP w []) := by
  by_cases h0 : 0 < n
  · obtain ⟨cap, cells, hrun, h1, h2, h3⟩ := run_zeros n h0 hn w 28
    have H3 := hd h3
    have HRun := hd hrun
    have h0i : (0 : Int) < n := by omega
    clear h3 hrun
    go_enter Try.func68, Try.ntmps68
    go_wp2_with (at_builtin; refine Lib.wpList_append_run _ rfl (.tmp 20) (.tmp 21) _ _ rfl (.slice none 0 0) (.int .i64 n) rfl rfl _ _ HRun.out ?_)
    go_ret
    exact ⟨_, rfl, OwnI.of_own (World.ownsRow_made w.drew cells cap (Nat.le_refl _) h2 (by rw [H3.out]; simp)) rfl, ((below_drewN (Below.refl _ _) 1).alloc (Nat.le_refl _) _)⟩
  · obtain rfl : n = 0 := by omega
    go_enter Try.func68, Try.ntmps68
    go_wp2
    go_ret
    exact ⟨_, rfl, OwnI.nil _ _, Below.refl _ _⟩

/-- Lists one behind the other. -/
def catL (L : Nat → List Int) : Nat → List Int
  | 0 => []
  | k + 1 => catL L k ++ L k
set_option maxRecDepth 4000 in
theorem catL_len (L : Nat → List Int) (N : Nat) (h : ∀ k, k < N → (L k).length ≤ 1000) (k : Nat) (hk : k ≤ N) : (catL L k).length ≤ k * 1000 := by
  induction k with
  | zero => simp [catL]
  | succ k ih =>
    have := ih (by omega)
    have := h k (by omega)
    simp [catL]; omega

set_option maxRecDepth 4000 in
set_option maxHeartbeats 4000000 in
theorem concat_any (b o N c : Nat) (As : Nat → Option Addr) (L : Nat → List Int) (cs : Nat → Nat) (w : World) (hN : N ≤ 4) (hlen : ∀ k, k < N → (L k).length ≤ 1000) (hcell : ∀ k, k < N → w.cell? ⟨b, o + k, none⟩ = some (.slice (As k) (L k).length (cs k))) (hb : b < w.heap.size)
    (hv : ∀ k, k < N → IL w w.heap.size (As k) (L k)) : Calls Try.prog 56 #[.slice (some ⟨b, o, none⟩) N c] w (NewP w (catL L N)) := by
  have HL := hd hlen
  have HC := hd hcell
  have HV := hd hv
  have HT := hd (catL_len L N hlen)
  clear hlen hcell hv
  go_enter Try.func56, Try.ntmps56
  go_wp2
  go_loop [3, 11] (fun s i => ∃ k : Nat, k ≤ N ∧ i = .int .i64 k ∧ s = .int .i64 (catL L k).length) (fun _ i => N - (intOf i).toNat)
  case atStart => exact ⟨0, Nat.zero_le _, rfl, rfl⟩
  case round =>
    obtain ⟨k, hk, rfl, rfl⟩ := hrel
    have ht := HT.out k hk
    have ht2 : k * 1000 ≤ 4000 := by omega
    by_cases hlt : k < N
    · have hc := HC.out k hlt
      have hl := HL.out k hlt
      have HX := hd (show ((catL L (k + 1)).length : Int) = (catL L k).length + (L k).length by simp [catL])
      go_wp2
      go_round
      case rel => exact ⟨k + 1, by omega, by go_num, by rw [HX.out]⟩
      case measure => simp [intOf]; omega
    · obtain rfl : k = N := by omega
      clear hlt
      go_wp2_with fail
      refine (grow_any (catL L k).length w (by omega)).mono ?_
      rintro e w1 ⟨v1, rfl, ho1, hb1⟩
      have HO1 := hd (show OwnI w1 w.heap.size v1 (catL L 0) from ho1)
      clear ho1
      go_wp2_with fail
      go_loopw [6, 27] (fun v i wr => ∃ j : Nat, j ≤ k ∧ i = .int .i64 j ∧ Hid (OwnI wr w.heap.size v (catL L j)) ∧ Below w.heap.size w wr) (fun _ i _ => k - (intOf i).toNat)
      case atStart => exact ⟨0, Nat.zero_le _, rfl, HO1, hb1⟩
      case round =>
        obtain ⟨j, hj, rfl, ho, hbr⟩ := hrel
        by_cases hlt : j < k
        · have hc := (hbr.cell (p := ⟨b, o + j, none⟩) hb).trans (HC.out j hlt)
          have HVj := hd ((HV.out j hlt).below hbr)
          have hl := HL.out j hlt
          have htj := HT.out j hj
          have hl2 : (catL L j).length + (L j).length ≤ 10000 := by omega
          go_wp2_with (at_builtin; refine wpList_append_L _ rfl (.tmp 31) (.tmp 32) rfl w.heap.size _ (catL L j) (L j) rfl ho.out (As j) (L j).length (cs j) w.heap.size rfl rfl HVj.out hl2 hbr.size ?_; intro v2 w2 ho2 hg2)
          have HO2 := hd (show OwnI w2 w.heap.size v2 (catL L (j + 1)) from ho2)
          have hb2 := hg2.below w.heap.size w (Nat.le_refl _) hbr.size hbr
          clear ho2
          go_roundw
          case rel => exact ⟨j + 1, by omega, by go_num, HO2, hb2⟩
          case measure => simp [intOf]; omega
        · obtain rfl : j = k := by omega
          go_wp2
          go_ret
          exact ⟨_, rfl, ho.out, hbr⟩

end Go.Proofs.Ytmglnjmnabjjgaa

namespace Go.Proofs.Ytmglnjmnabjjgaa
open Go.RowKit
open Go.WideShapes (add_plain)

theorem xlt {w : World} {g : Nat} {o : Obj} (h : w.heap[g]? = some o) : g < w.heap.size := (Array.getElem?_eq_some_iff.1 h).1
set_option maxRecDepth 4000 in
theorem xkeep {W w' : World} {g : Nat} {o : Obj} (h : W.heap[g]? = some o) (hb : Below W.heap.size W w') : w'.heap[g]? = some o := (hb.block _ (xlt h)).trans h
set_option maxRecDepth 4000 in
theorem op_cells {w : World} {g : Nat} {x0 x1 x2 x3 r4 r5 r6 r7 r8 r9 r10 r11 r12 r13 r14 r15 r16 r17 r18 r19 r20 : Value} {t : TypeId} (h : w.heap[g]? = some (.cells #[x0, x1, x2, x3, r4, r5, r6, r7, r8, r9, r10, r11, r12, r13, r14, r15, r16, r17, r18, r19, r20] t (0, 0))) :
    w.cell? ⟨g, 0, none⟩ = some x0 ∧ w.cell? ⟨g, 1, none⟩ = some x1 ∧ w.cell? ⟨g, 2, none⟩ = some x2 ∧ w.cell? ⟨g, 3, none⟩ = some x3 := by
  refine ⟨?_, ?_, ?_, ?_⟩ <;> simp [World.cell?, h]
def NewPB (w : World) (r : List Int × Bool) (e : Ending) (w' : World) : Prop := ∃ v, e = .returned (.tuple #[v, .bool r.2]) ∧ OwnI w' w.heap.size v r.1 ∧ Below w.heap.size w w'
set_option maxRecDepth 4000 in
theorem newPB_ret {w w' : World} {r : List Int × Bool} {l : List Int} {b : Bool} {v : Value} (h : r = (l, b)) (ho : OwnI w' w.heap.size v l) (hb : Below w.heap.size w w') : NewPB w r (.returned (.tuple #[v, .bool b])) w' := by
  subst h; exact ⟨v, rfl, ho, hb⟩
set_option maxRecDepth 4000 in
theorem NewP.old {w W w' : World} {l : List Int} {e : Ending} (h : NewP W l e w') (hb : Below w.heap.size w W) : NewP w l e w' := by
  obtain ⟨v, he, ho, hb2⟩ := h
  exact ⟨v, he, ho.weaken hb.size, hb.trans (hb2.mono hb.size)⟩
set_option maxRecDepth 4000 in
theorem il_new (W : World) (l : List Int) (t : TypeId) (_hn : l ≠ []) : IL (W.alloc (.cells (l.map (Value.int .i64)).toArray t)) (W.heap.size + 1) (some ⟨W.heap.size, 0, none⟩) l := fun _ =>
  ⟨W.heap.size, 0, rfl, by omega, fun k hk => by rw [World.cell?_alloc_at _ _ _ _ rfl]; simp [iAt_eq l k hk, hk]⟩
set_option maxRecDepth 4000 in
theorem il_one (W : World) (x : Int) (t : TypeId) : IL (W.alloc (.cells #[.int .i64 x] t)) (W.alloc (.cells #[.int .i64 x] t)).heap.size (some ⟨W.heap.size, 0, none⟩) [x] := by
  have := il_new W [x] t (by simp)
  simpa using this
set_option maxRecDepth 4000 in
theorem xil_two (W : World) (x y : Int) (t : TypeId) : IL (W.alloc (.cells #[.int .i64 x, .int .i64 y] t)) (W.alloc (.cells #[.int .i64 x, .int .i64 y] t)).heap.size (some ⟨W.heap.size, 0, none⟩) [x, y] := by
  have := il_new W [x, y] t (by simp)
  simpa using this
set_option maxRecDepth 4000 in
theorem new_below (W : World) (o : Obj) : Below W.heap.size W (W.alloc o) := (Below.refl _ _).alloc (Nat.le_refl _) _

/-- The value v is the path l. -/
def XA (w : World) (v : Value) (l : List Int) : Prop := ∃ A n c, v = .slice A n c ∧ l.length = n ∧ n ≤ 1000 ∧ n ≤ c ∧ IL w w.heap.size A l
set_option maxRecDepth 4000 in
theorem XA.own {w : World} {B : Nat} {v : Value} {l : List Int} (h : OwnI w B v l) (hl : l.length ≤ 1000) : XA w v l := by
  obtain ⟨A, c, e, h1, _, h2⟩ := h.open_
  exact ⟨A, _, c, e, rfl, hl, h1, h2⟩
set_option maxRecDepth 4000 in
theorem xa_nil (W : World) (d : Nat) : XA W (.slice none 0 d) [] := ⟨none, 0, d, rfl, rfl, by omega, by omega, IL.nil _ _ _⟩
set_option maxRecDepth 4000 in
theorem xa_one (W : World) (x : Int) (t : TypeId) : XA (W.alloc (.cells #[.int .i64 x] t)) (.slice (some ⟨W.heap.size, 0, none⟩) 1 1) [x] := ⟨_, _, _, rfl, rfl, by omega, by omega, il_one W x t⟩
set_option maxRecDepth 4000 in
theorem xa_two (W : World) (x y : Int) (t : TypeId) : XA (W.alloc (.cells #[.int .i64 x, .int .i64 y] t)) (.slice (some ⟨W.heap.size, 0, none⟩) 2 2) [x, y] := ⟨_, _, _, rfl, rfl, by omega, by omega, xil_two W x y t⟩
set_option maxRecDepth 4000 in
theorem within_at {W : World} {v : Value} {l : List Int} {b : Bool} (hp : XA W v l) (hs : smallI l = b) : Calls Try.prog 53 #[v] W (Still (.bool b) W) := by
  obtain ⟨A, n, c, rfl, h1, h2, _, h3⟩ := hp
  subst hs
  exact calls_still (within_any A l n c W h1 (by omega) h3)
set_option maxRecDepth 4000 in
theorem stand_at {W : World} {u v : Value} {l m : List Int} {s : Int} (hp : XA W u l) (hq : XA W v m) (hs : standL l m = s) : Calls Try.prog 55 #[u, v] W (Quiet (.int .i64 s) W) := by
  obtain ⟨A, n, c, rfl, h1, h2, _, h3⟩ := hp
  obtain ⟨B, k, d, rfl, g1, g2, _, g3⟩ := hq
  subst hs
  exact stand_any A B l m n k c d W h1 g1 (by omega) (by omega) h3 g3
/-- Numbers that do not run over. -/
def Mild (l : List Int) : Prop := ∀ j, j < l.length → -4000000 ≤ iAt l j ∧ iAt l j ≤ 4000000
set_option maxRecDepth 4000 in
theorem mild_nil : Mild [] := fun _ h => absurd h (Nat.not_lt_zero _)
set_option maxRecDepth 4000 in
theorem mild_one {x : Int} (h : -4000000 ≤ x ∧ x ≤ 4000000) : Mild [x] := fun j hj => by
  obtain rfl : j = 0 := by simp at hj; omega
  exact h
set_option maxRecDepth 4000 in
theorem mild_two {x y : Int} (h : -4000000 ≤ x ∧ x ≤ 4000000) (h2 : -4000000 ≤ y ∧ y ≤ 4000000) : Mild [x, y] := fun j hj => by
  rcases (show j = 0 ∨ j = 1 by simp at hj; omega) with rfl | rfl
  · exact h
  · exact h2
set_option maxRecDepth 4000 in
theorem plus_at {W : World} {u v : Value} {l r : List Int} {k : Nat} {z : Int} (hz : (k : Int) = z) (hp : XA W u l) (hq : XA W v r) (hk : r.length ≠ 0 → k + r.length ≤ l.length) (hL : Mild l) (hR : Mild r) : Calls Try.prog 54 #[u, .int .i64 z, v] W (NewP W (plusL l k r)) := by
  subst hz
  obtain ⟨A, n, c, rfl, rfl, h2, _, h3⟩ := hp
  obtain ⟨B, m, d, rfl, rfl, g2, _, g3⟩ := hq
  exact plus_any A B l r _ _ k c d W rfl rfl h2 hk hL hR h3 g3
set_option maxRecDepth 4000 in
theorem xsame_at {W : World} {u v : Value} {l m : List Int} {b : Bool} (hp : XA W u l) (hq : XA W v m) (hs : samI l m = b) : Calls Try.prog 20 #[u, v] W (Still (.bool b) W) := by
  obtain ⟨A, n, c, rfl, rfl, h2, h4, h3⟩ := hp
  obtain ⟨B, k, d, rfl, rfl, g2, g4, g3⟩ := hq
  subst hs
  exact calls_still (isame_any A B l m c d W (by omega) (by omega) h3 g3)
set_option maxRecDepth 4000 in
theorem xrsame_at {W : World} {u v : Value} {l m : List Int} {b : Bool} (hp : XA W u l) (hq : XA W v m) (hs : samI l m = b) : Calls Try.prog 31 #[u, v] W (Still (.bool b) W) := by
  obtain ⟨A, n, c, rfl, rfl, h2, h4, h3⟩ := hp
  obtain ⟨B, k, d, rfl, rfl, g2, g4, g3⟩ := hq
  subst hs
  exact calls_still (irsame_any A B l m c d W (by omega) (by omega) h3 g3)
set_option maxRecDepth 4000 in
theorem step_b {w0 W w' : World} (h : Below w0.heap.size w0 W) (hb : Below W.heap.size W w') : Below w0.heap.size w0 w' := h.trans (hb.mono h.size)

def two {α : Type} (x y : α) : Nat → α
  | 0 => x
  | _ => y
set_option maxRecDepth 4000 in
theorem concat2 (A1 A2 : Option Addr) (l1 l2 : List Int) (n1 n2 c1 c2 : Nat) (W : World) (t : TypeId) (g : Nat) (hg : g = W.heap.size) (h1 : l1.length = n1) (h2 : l2.length = n2) (m1 : n1 ≤ 1000) (m2 : n2 ≤ 1000)
    (v1 : IL W W.heap.size A1 l1) (v2 : IL W W.heap.size A2 l2) :
    Calls Try.prog 56 #[.slice (some ⟨g, 0, none⟩) 2 2] (W.alloc (.cells #[.slice A1 n1 c1, .slice A2 n2 c2] t)) (NewP W (l1 ++ l2)) := by
  subst hg h1 h2
  have hb := new_below W (.cells #[.slice A1 l1.length c1, .slice A2 l2.length c2] t)
  have e : catL (two l1 l2) 2 = l1 ++ l2 := by simp [catL, two]
  rw [← e]
  refine (concat_any W.heap.size 0 2 2 (two A1 A2) (two l1 l2) (two c1 c2) _ (by omega) (fun k hk => ?_) (fun k hk => ?_) (by simp) (fun k hk => ?_)).mono fun _ _ h => h.old hb
  · match k, hk with
    | 0, _ => exact m1
    | 1, _ => exact m2
  · rw [World.cell?_alloc_at _ _ _ _ rfl]
    match k, hk with
    | 0, _ => simp [two]
    | 1, _ => simp [two]
  · match k, hk with
    | 0, _ => exact v1.later hb
    | 1, _ => exact v2.later hb
set_option maxRecDepth 4000 in
theorem IL.drop {w : World} {B : Nat} {A : Option Addr} {l : List Int} (h : IL w B A l) (n c m : Nat) (hm : m = l.length) (hc : m ≤ c) : IL w B (if c = n then A else A.map (·.add (n * 1))) (l.drop n) := fun hn => by
  have hl : n < l.length := by
    rcases Nat.lt_or_ge n l.length with h | h
    · exact h
    · exact absurd (List.drop_eq_nil_of_le h) hn
  obtain ⟨b, o, rfl, hb, hcell⟩ := h (by rintro rfl; simp at hl)
  rw [if_neg (by omega)]
  refine ⟨b, o + n, by simp [add_plain], hb, fun k hk => ?_⟩
  rw [List.length_drop] at hk
  rw [Nat.add_assoc, hcell _ (by omega), iAt_eq _ k (by rw [List.length_drop]; exact hk), iAt_eq _ (n + k) (by omega), List.getElem_drop]
set_option maxRecDepth 4000 in
/-- What stands behind a place: the address. -/
theorem cut_run (A : Option Addr) (n c k : Nat) (hk : k ≤ n) (hc : n ≤ c) : ∃ D : Option Addr, (∀ (w : World) (B : Nat) (l : List Int), IL w B A l → l.length = n → IL w B D (l.drop k)) ∧
    (∀ W : World, (Instr.slice 28 (.slice A n c) (some (.int .i64 (k : Int))) none none).run Try.prog W = .ok (.slice D (n - k) (c - k)) W) := by
  refine ⟨if c = k then A else A.map (·.add (k * 1)), fun w B xs h hx => h.drop k c n hx.symm hc, fun W => ?_⟩
  have he : Try.prog.elem 28 = 3 := by kernel_rfl
  have hs : ∀ W, (sizeOf 3).run Try.prog W = .ok 1 W := fun _ => by kernel_rfl
  rw [run_slice_l W 28 A n c (by rw [he]; exact Try.underlying28) .i64 _ (by omega) (by omega), he, hs]
  simp [Result.andThen, sliced]

set_option maxRecDepth 4000 in
/-- Numbers of a path that may be, with a bound. -/
theorem small_mild {l : List Int} (h : smallI l = true) : Mild l := fun j hj => by
  have := (smallI_iff l).1 h j hj
  omega

end Go.Proofs.Ytmglnjmnabjjgaa
