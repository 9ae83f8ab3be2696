/- fresh tells refs anew. Refs one behind the other: slices.Grow, slices.Concat. Free: the program's. A region that draws its order, up to a milestone: S is asked behind each operation as long as operation m has not run. Where a point goes: plain functions and facts; no program is named here. Where a ref goes: plain functions. A path's ref goes along: the program's function of paths. -/
import Derived.Test.YtmglnjmnabjjgaaJLFree
import Derived.StillTailTactics
import Derived.Lib.AppendZeros
import Derived.Test.YtmglnjmnabjjgaaJLOpen
import Derived.Test.YtmglnjmnabjjgaaJKCmp
import Derived.Test.YtmglnjmnabjjgaaJXMove5
namespace Go.Proofs.Ytmglnjmnabjjgaa
open Go.RowKit

set_option maxRecDepth 100000 in
set_option maxHeartbeats 4000000 in
theorem hfresh_0 {w : World} {F : Nat → Prop} {A : Option Addr} {cap : Nat} : Calls Try.prog 22 #[.slice A 0 cap] w (NewFr w F []) := by
  have HC := hd (rclone_any (cs := []) (n := 0) (c := cap) rfl (by omega) (VL.nil w w.heap.size A))
  go_enter Try.func22, Try.ntmps22
  go_wp2_with (go_at_call 33; refine HC.out.mono ?_; rintro e w1 ⟨A1, c1, rfl, ho1, hb1⟩)
  go_loopw [12] (fun i wr => i = .int .i64 0 ∧ wr = w1) (fun _ _ => 0)
  case atStart => exact ⟨rfl, rfl⟩
  case round =>
    obtain ⟨rfl, rfl⟩ := hrel
    go_wp2
    go_ret
    exact ⟨A1, 0, c1, [], rfl, rfl, Nat.zero_le _, fun h => absurd h (Nat.lt_irrefl _), LR.nil _ _, hb1⟩

set_option maxRecDepth 100000 in
set_option maxHeartbeats 4000000 in
theorem hfresh_1 {w : World} {F : Nat → Prop} {A : Option Addr} {cs : List RC} {us : List RefP} {n cap : Nat} (h : LR w A cs us) (hh : HeldR F w cs us) (hF : ∀ k, F k → k < w.heap.size) (hn : us.length = n) (hl : n ≤ 10000) (h0 : 0 < n) (ht : ∀ r ∈ us, tinyR r) : Calls Try.prog 22 #[.slice A n cap] w (NewFr w F us) := by
  have HC := hd (rclone_any (n := n) (c := cap) (by rw [h.hl]; exact hn) hl h.hv)
  have HK := hd hh
  have HFL := hd hF
  have HN := hd hn
  have HT := hd ht
  clear h hn ht hh hF
  go_enter Try.func22, Try.ntmps22
  go_wp2_with (go_at_call 33; refine HC.out.mono ?_; rintro e w1 ⟨A1, c1, rfl, ho1, hb1⟩; have hle : n ≤ c1 := (lrow_vl ho1).1; obtain ⟨g, rfl, hg, hrow⟩ := row_of_own ho1 h0; have HF := hd (Fr.start HK.out hrow hb1 hg HFL.out); clear ho1 hb1 hg hrow)
  go_loopw [12] (fun i wr => ∃ k : Nat, k ≤ n ∧ i = .int .i64 k ∧ ∃ ds, Hid (Fr w F g us ds wr)) (fun i _ => n - (intOf i).toNat)
  case atStart => exact ⟨0, Nat.zero_le _, rfl, cs, HF⟩
  case round =>
    obtain ⟨k, hk1, rfl, ds, HF⟩ := hrel
    by_cases hlt : k < n
    · go_upto_region 6 with fail
      refine Y_start (S := fun _ => True) (z := fun _ => false) (by kernel_rfl) ?_
      have HSS := hd trivial
      refine Y_take (i := 0) (n := 19) (.pointer (some ⟨g, k * 11, none⟩)) rfl (by kernel_rfl) (by kernel_rfl) (by kernel_rfl) (by kernel_rfl) (fun _ _ _ h => h) (by rfl) (fun W9 hW9 => ?_) HSS.out ?_
      · go_simp
      simp only [Act.put, List.setIfInBounds_toArray, List.set_cons_succ, List.set_cons_zero, List.getElem_toArray, List.getElem_cons_zero]
      refine Y_take (i := 1) (n := 18) (.pointer (some ⟨g, k * 11, none⟩)) rfl (by kernel_rfl) (by kernel_rfl) (by kernel_rfl) (by kernel_rfl) (fun _ _ _ h => h) (by rfl) (fun W9 hW9 => ?_) HSS.out ?_
      · go_simp
      simp only [Act.put, List.setIfInBounds_toArray, List.set_cons_succ, List.set_cons_zero, List.getElem_toArray, List.getElem_cons_succ, List.getElem_cons_zero]
      refine Y_take (i := 2) (n := 17) (.pointer (some ⟨g, k * 11 + 4, none⟩)) rfl (by kernel_rfl) (by kernel_rfl) (by kernel_rfl) (by kernel_rfl) (fun _ _ _ h => h) (by rfl) (fun W9 hW9 => ?_) HSS.out ?_
      · go_simp
      simp only [Act.put, List.setIfInBounds_toArray, List.set_cons_succ, List.set_cons_zero, List.getElem_toArray, List.getElem_cons_succ, List.getElem_cons_zero]
      refine Y_take (i := 3) (n := 16) (.pointer (some ⟨g, k * 11, none⟩)) rfl (by kernel_rfl) (by kernel_rfl) (by kernel_rfl) (by kernel_rfl) (fun _ _ _ h => h) (by rfl) (fun W9 hW9 => ?_) HSS.out ?_
      · go_simp
      simp only [Act.put, List.setIfInBounds_toArray, List.set_cons_succ, List.set_cons_zero, List.getElem_toArray, List.getElem_cons_succ, List.getElem_cons_zero]
      refine Y_take (i := 4) (n := 15) (.pointer (some ⟨g, k * 11, none⟩)) rfl (by kernel_rfl) (by kernel_rfl) (by kernel_rfl) (by kernel_rfl) (fun _ _ _ h => h) (by rfl) (fun W9 hW9 => ?_) HSS.out ?_
      · go_simp
      simp only [Act.put, List.setIfInBounds_toArray, List.set_cons_succ, List.set_cons_zero, List.getElem_toArray, List.getElem_cons_succ, List.getElem_cons_zero]
      refine Y_take (i := 5) (n := 14) (.pointer (some ⟨g, k * 11 + 5, none⟩)) rfl (by kernel_rfl) (by kernel_rfl) (by kernel_rfl) (by kernel_rfl) (fun _ _ _ h => h) (by rfl) (fun W9 hW9 => ?_) HSS.out ?_
      · go_simp
      simp only [Act.put, List.setIfInBounds_toArray, List.set_cons_succ, List.set_cons_zero, List.getElem_toArray, List.getElem_cons_succ, List.getElem_cons_zero]
      refine Y_take (i := 6) (n := 13) (.pointer (some ⟨g, k * 11 + 5, none⟩)) rfl (by kernel_rfl) (by kernel_rfl) (by kernel_rfl) (by kernel_rfl) (fun _ _ _ h => h) (by rfl) (fun W9 hW9 => ?_) HSS.out ?_
      · go_simp
      simp only [Act.put, List.setIfInBounds_toArray, List.set_cons_succ, List.set_cons_zero, List.getElem_toArray, List.getElem_cons_succ, List.getElem_cons_zero]
      refine Y_take (i := 7) (n := 12) (.pointer (some ⟨g, k * 11, none⟩)) rfl (by kernel_rfl) (by kernel_rfl) (by kernel_rfl) (by kernel_rfl) (fun _ _ _ h => h) (by rfl) (fun W9 hW9 => ?_) HSS.out ?_
      · go_simp
      simp only [Act.put, List.setIfInBounds_toArray, List.set_cons_succ, List.set_cons_zero, List.getElem_toArray, List.getElem_cons_succ, List.getElem_cons_zero]
      refine Y_take (i := 8) (n := 11) (.pointer (some ⟨g, k * 11, none⟩)) rfl (by kernel_rfl) (by kernel_rfl) (by kernel_rfl) (by kernel_rfl) (fun _ _ _ h => h) (by rfl) (fun W9 hW9 => ?_) HSS.out ?_
      · go_simp
      simp only [Act.put, List.setIfInBounds_toArray, List.set_cons_succ, List.set_cons_zero, List.getElem_toArray, List.getElem_cons_succ, List.getElem_cons_zero]
      refine Y_take (i := 9) (n := 10) (.pointer (some ⟨g, k * 11 + 7, none⟩)) rfl (by kernel_rfl) (by kernel_rfl) (by kernel_rfl) (by kernel_rfl) (fun _ _ _ h => h) (by rfl) (fun W9 hW9 => ?_) HSS.out ?_
      · go_simp
      simp only [Act.put, List.setIfInBounds_toArray, List.set_cons_succ, List.set_cons_zero, List.getElem_toArray, List.getElem_cons_succ, List.getElem_cons_zero]
      refine Y_take (i := 10) (n := 9) (.pointer (some ⟨g, k * 11 + 7, none⟩)) rfl (by kernel_rfl) (by kernel_rfl) (by kernel_rfl) (by kernel_rfl) (fun _ _ _ h => h) (by rfl) (fun W9 hW9 => ?_) HSS.out ?_
      · go_simp
      simp only [Act.put, List.setIfInBounds_toArray, List.set_cons_succ, List.set_cons_zero, List.getElem_toArray, List.getElem_cons_succ, List.getElem_cons_zero]
      refine Y_take (i := 11) (n := 8) (.pointer (some ⟨g, k * 11 + 7, none⟩)) rfl (by kernel_rfl) (by kernel_rfl) (by kernel_rfl) (by kernel_rfl) (fun _ _ _ h => h) (by rfl) (fun W9 hW9 => ?_) HSS.out ?_
      · go_simp
      simp only [Act.put, List.setIfInBounds_toArray, List.set_cons_succ, List.set_cons_zero, List.getElem_toArray, List.getElem_cons_succ, List.getElem_cons_zero]
      refine Y_take (i := 12) (n := 7) (.pointer (some ⟨g, k * 11, none⟩)) rfl (by kernel_rfl) (by kernel_rfl) (by kernel_rfl) (by kernel_rfl) (fun _ _ _ h => h) (by rfl) (fun W9 hW9 => ?_) HSS.out ?_
      · go_simp
      simp only [Act.put, List.setIfInBounds_toArray, List.set_cons_succ, List.set_cons_zero, List.getElem_toArray, List.getElem_cons_succ, List.getElem_cons_zero]
      refine Y_take (i := 13) (n := 6) (.pointer (some ⟨g, k * 11, none⟩)) rfl (by kernel_rfl) (by kernel_rfl) (by kernel_rfl) (by kernel_rfl) (fun _ _ _ h => h) (by rfl) (fun W9 hW9 => ?_) HSS.out ?_
      · go_simp
      simp only [Act.put, List.setIfInBounds_toArray, List.set_cons_succ, List.set_cons_zero, List.getElem_toArray, List.getElem_cons_succ, List.getElem_cons_zero]
      refine Y_take (i := 14) (n := 5) (.pointer (some ⟨g, k * 11 + 7, none⟩)) rfl (by kernel_rfl) (by kernel_rfl) (by kernel_rfl) (by kernel_rfl) (fun _ _ _ h => h) (by rfl) (fun W9 hW9 => ?_) HSS.out ?_
      · go_simp
      simp only [Act.put, List.setIfInBounds_toArray, List.set_cons_succ, List.set_cons_zero, List.getElem_toArray, List.getElem_cons_succ, List.getElem_cons_zero]
      refine Y_take (i := 15) (n := 4) (.pointer (some ⟨g, k * 11 + 9, none⟩)) rfl (by kernel_rfl) (by kernel_rfl) (by kernel_rfl) (by kernel_rfl) (fun _ _ _ h => h) (by rfl) (fun W9 hW9 => ?_) HSS.out ?_
      · go_simp
      simp only [Act.put, List.setIfInBounds_toArray, List.set_cons_succ, List.set_cons_zero, List.getElem_toArray, List.getElem_cons_succ, List.getElem_cons_zero]
      refine Y_take (i := 16) (n := 3) (.pointer (some ⟨g, k * 11 + 9, none⟩)) rfl (by kernel_rfl) (by kernel_rfl) (by kernel_rfl) (by kernel_rfl) (fun _ _ _ h => h) (by rfl) (fun W9 hW9 => ?_) HSS.out ?_
      · go_simp
      simp only [Act.put, List.setIfInBounds_toArray, List.set_cons_succ, List.set_cons_zero, List.getElem_toArray, List.getElem_cons_succ, List.getElem_cons_zero]
      refine Y_take (i := 19) (n := 2) (.int .i64 0) rfl (by kernel_rfl) (by kernel_rfl) (by kernel_rfl) (by kernel_rfl) (fun _ _ _ h => h) (by rfl) (fun W9 hW9 => ?_) HSS.out ?_
      · go_simp
      simp only [Act.put, List.setIfInBounds_toArray, List.set_cons_succ, List.set_cons_zero, List.getElem_toArray, List.getElem_cons_succ, List.getElem_cons_zero]
      have HF := hd (HF.out.call (Below.refl wr.heap.size wr).drew)
      generalize wr.drew = W at HF ⊢
      refine Y_one (i := 17) (n := 1) (by kernel_rfl) rfl (fun K hK => ?_)
      rw [if_pos (by rfl)]
      go_simp
      have hgl := HF.out.row.lt
      have HH := hd (show ∀ j, j < 4 → (W.alloc (.cells #[.pointer (some ⟨g, k * 11 + 4, none⟩), .pointer (some ⟨g, k * 11 + 5, none⟩), .pointer (some ⟨g, k * 11 + 7, none⟩), .pointer (some ⟨g, k * 11 + 9, none⟩)] 75)).cell? ⟨W.heap.size, j, none⟩ = some (.pointer (some ⟨g, k * 11 + pOff j, none⟩)) from fun j hj => by
        rw [World.cell?_alloc_at _ _ _ _ rfl]
        match j, hj with
        | 0, _ => rfl
        | 1, _ => rfl
        | 2, _ => rfl
        | 3, _ => rfl)
      have HF := hd (HF.out.call ((Below.refl W.heap.size W).alloc (Nat.le_refl _) (.cells #[.pointer (some ⟨g, k * 11 + 4, none⟩), .pointer (some ⟨g, k * 11 + 5, none⟩), .pointer (some ⟨g, k * 11 + 7, none⟩), .pointer (some ⟨g, k * 11 + 9, none⟩)] 75)))
      have hhl : W.heap.size < (W.alloc (.cells #[.pointer (some ⟨g, k * 11 + 4, none⟩), .pointer (some ⟨g, k * 11 + 5, none⟩), .pointer (some ⟨g, k * 11 + 7, none⟩), .pointer (some ⟨g, k * 11 + 9, none⟩)] 75)).heap.size := by simp
      generalize W.alloc (.cells #[.pointer (some ⟨g, k * 11 + 4, none⟩), .pointer (some ⟨g, k * 11 + 5, none⟩), .pointer (some ⟨g, k * 11 + 7, none⟩), .pointer (some ⟨g, k * 11 + 9, none⟩)] 75) = W1 at HF HH hhl ⊢
      obtain ⟨h, hh⟩ : ∃ h, W.heap.size = h := ⟨_, rfl⟩
      rw [hh] at HH hhl hgl ⊢
      refine hK _ _ (fun _ => trivial) ?_
      clear hK K
      refine Y_one (i := 18) (n := 0) (by kernel_rfl) rfl (fun K hK => ?_)
      rw [if_pos (by rfl)]
      go_simp
      refine hK _ _ (fun _ => trivial) (Y_done (by kernel_rfl) ?_)
      clear hK K
      go_wp2_with fail
      go_loopw [37] (fun i wr2 => ∃ j : Nat, j ≤ 4 ∧ i = .int .i64 j ∧ (∃ ds, Hid (Fr w F g us ds wr2)) ∧ Hid (∀ j, j < 4 → wr2.cell? ⟨h, j, none⟩ = some (.pointer (some ⟨g, k * 11 + pOff j, none⟩))) ∧ h < wr2.heap.size) (fun i _ => 4 - (intOf i).toNat)
      case atStart => exact ⟨0, Nat.zero_le _, rfl, ⟨ds, HF⟩, HH, hhl⟩
      case round =>
        obtain ⟨j, hj, rfl, ⟨ds2, HF2⟩, HH2, hhl⟩ := hrel
        clear HF HH
        by_cases hj4 : j < 4
        · obtain ⟨c, r, hc, hu, hrk⟩ := HF2.out.at_ (k := k) (by rw [HN.out]; exact hlt)
          have HS := hd (fun A m W' b hm hs => HF2.out.set (W' := W') (j := j) (A := A) (m := m) hc hu b hm hs)
          have hq := hrk.pth j
          have hx := HF2.out.row.cell (cellsR_at hc (pOff j) _ (RC.row_pth c j))
          have hpt := HH2.out j hj4
          have hle1 := (HT.out r (List.mem_of_getElem? hu)).pth j
          obtain ⟨of, hof⟩ : ∃ of, pOff j = of := ⟨_, rfl⟩
          rw [hof] at hx hpt HS
          obtain ⟨⟨PA, PN, PC⟩, hpq⟩ : ∃ q, c.pth j = q := ⟨_, rfl⟩
          rw [hpq] at hx hq HS
          simp only at hx hq HS
          have HCL := hd (clonei_at PA (r.pth j) PN PC wr hq.len (by have := hq.len; omega) hq.il)
          clear hc hu hrk hq hle1 hof hpq
          go_wp2_with (go_at_call 34; refine HCL.out.mono ?_; rintro e w5 ⟨A2, c2, rfl, hc2, hst, b9⟩; have HST := hd hst; have HB9 := hd b9; have HC2 := hd hc2; have x0 := HB9.out.cell (p := ⟨g, k * 11 + of, none⟩) HF2.out.row.lt; rw [hx] at x0; have f0 := (HF2.out.call HB9.out).row.frozen (k * 11 + of); clear b9 hst hx hc2)
          go_roundw
          case rel =>
            refine ⟨j + 1, by omega, by go_num, ⟨_, hd (HS.out A2 c2 _ HB9.out HC2.out HST.out)⟩, hd (fun j' hj' => ?_), ?_⟩
            · exact (World.cell?_of_block (Below.heap_setCell _ _ _ _ (show h ≠ g by omega))).trans ((HB9.out.cell (p := ⟨h, j', none⟩) hhl).trans (HH2.out j' hj'))
            · have := HB9.out.size
              simp only [World.size_setCell]
              omega
          case measure => simp [intOf]; omega
        · obtain rfl : j = 4 := by omega
          go_wp2_with fail
          go_roundw
          case rel => exact ⟨k + 1, by omega, by go_num, ds2, HF2⟩
          case measure => simp [intOf]; omega
    · obtain rfl : k = n := by omega
      go_wp2_with fail
      go_ret
      exact ⟨some ⟨g, 0, none⟩, k, c1, ds, rfl, HN.out, hle, fun _ => ⟨g, rfl, HF.out⟩, HF.out.lr, HF.out.below⟩
set_option maxRecDepth 4000 in
theorem hfresh_f {w : World} {F : Nat → Prop} {A : Option Addr} {cs : List RC} {us : List RefP} {n cap : Nat} (h : LR w A cs us) (hh : HeldR F w cs us) (hF : ∀ k, F k → k < w.heap.size) (hn : us.length = n) (hl : n ≤ 10000) (ht : ∀ r ∈ us, tinyR r) : Calls Try.prog 22 #[.slice A n cap] w (NewFr w F us) := by
  rcases Nat.eq_zero_or_pos n with h0 | h0
  · subst h0
    obtain rfl := List.eq_nil_of_length_eq_zero hn
    exact hfresh_0
  · exact hfresh_1 h hh hF hn hl h0 ht
set_option maxRecDepth 4000 in
theorem hfresh_any {w : World} {A : Option Addr} {cs : List RC} {us : List RefP} {n cap : Nat} (h : LR w A cs us) (hn : us.length = n) (hl : n ≤ 10000) (ht : ∀ r ∈ us, tinyR r) : Calls Try.prog 22 #[.slice A n cap] w (NewFr w (fun _ => False) us) :=
  hfresh_f h (HeldR.plain h.rk) (fun _ h => h.elim) hn hl ht

end Go.Proofs.Ytmglnjmnabjjgaa

namespace Go.Proofs.Ytmglnjmnabjjgaa
open Go.RowKit

theorem hrun_zeros (n : Nat) (h0 : 0 < n) (hn : n ≤ 100000) (w : World) (ty : TypeId) : ∃ cap cells, (Builtin.append_ #[27, 3] ty #[.slice none 0 0, .int .i64 n]).run Try.prog w = .ok (.slice (some ⟨w.heap.size, 0, none⟩) n cap) (w.drew.alloc (.cells cells 34)) ∧ n ≤ cap ∧ cap ≤ maxLen ∧ cells.size = cap * 11 := by
  obtain ⟨i0, hi, hz0, hz1, hz2⟩ := info_parts refInfo
  have hc := grownCap_ge w n 0 34
  refine ⟨_, _, Lib.run_append_nil_zeros w 27 3 ty 34 i0 _ .i64 .i64 Try.underlying27 Try.underlying3 hi hz0 n h0 (by omega) (by omega) (by rw [hz2]; omega), hc, grownCap_le_maxLen w n 0 _ (by unfold maxLen; omega), ?_⟩
  simp [Builtin.zeroCells, Value.cells, RC.row]
  omega

set_option maxRecDepth 4000 in
set_option maxHeartbeats 1000000 in
theorem hgrow_any (n : Nat) (w : World) (hn : n ≤ 100000) : Calls Try.prog 35 #[.slice none 0 0, .int .i64 n] w (NewRow w 0 []) := by
  by_cases h0 : 0 < n
  · obtain ⟨cap, cells, hrun, h1, h2, h3⟩ := hrun_zeros n h0 hn w 27
    have H3 := hd h3
    have HRun := hd hrun
    have h0i : (0 : Int) < n := by omega
    clear h3 hrun
    go_enter Try.func35, Try.ntmps35
    go_wp2_with (at_builtin; refine Lib.wpList_append_run _ rfl (.tmp 20) (.tmp 21) _ _ rfl (.slice none 0 0) (.int .i64 n) rfl rfl _ _ HRun.out ?_)
    go_ret
    exact ⟨_, _, rfl, World.ownsRow_made w.drew cells cap (Nat.le_refl _) h2 (by rw [H3.out]), ((below_drewN (Below.refl _ _) 1).alloc (Nat.le_refl _) _)⟩
  · obtain rfl : n = 0 := by omega
    go_enter Try.func35, Try.ntmps35
    go_wp2
    go_ret
    exact ⟨none, 0, rfl, World.ownsRow_nil _ _ _ _, Below.refl _ _⟩

set_option maxRecDepth 100000 in
set_option maxHeartbeats 4000000 in
/-- Two lists, one behind the other. -/
theorem hconcat_any {w : World} {b o n m c d cap : Nat} {A B : Option Addr} {cs ds : List RC} (hn : cs.length = n) (hm : ds.length = m) (ln : n ≤ 1000) (lm : m ≤ 1000) (hb : b < w.heap.size) (h0 : w.cell? ⟨b, o, none⟩ = some (.slice A n c)) (h1 : w.cell? ⟨b, o + 1, none⟩ = some (.slice B m d))
    (hA : VL w w.heap.size A (cellsR cs)) (hB : VL w w.heap.size B (cellsR ds)) : Calls Try.prog 23 #[.slice (some ⟨b, o, none⟩) 2 cap] w (NewRow w (n + m) (cs ++ ds)) := by
  have HN := hd hn
  have HM := hd hm
  have HA := hd hA
  have HB := hd hB
  have H0 := hd h0
  have H1 := hd h1
  have HG := hd (hgrow_any (n + m) w (by omega))
  clear hn hm hA hB h0 h1
  go_enter Try.func23, Try.ntmps23
  go_wp2
  go_loop [3, 11] (fun s i => (i = .int .i64 0 ∧ s = .int .i64 0) ∨ (i = .int .i64 1 ∧ s = .int .i64 n) ∨ (i = .int .i64 2 ∧ s = .int .i64 ((n + m : Nat) : Int))) (fun _ i => 2 - (intOf i).toNat)
  case atStart => exact .inl ⟨rfl, rfl⟩
  case round =>
    rcases hrel with ⟨rfl, rfl⟩ | ⟨rfl, rfl⟩ | ⟨rfl, rfl⟩
    · have hc := H0.out
      go_wp2
      go_round
      case rel => exact .inr (.inl ⟨rfl, by simp⟩)
      case measure => simp [intOf]
    · have hc := H1.out
      go_wp2
      go_round
      case rel => exact .inr (.inr ⟨rfl, by simp⟩)
      case measure => simp [intOf]
    · go_wp2_with fail
      refine HG.out.mono ?_
      rintro e w1 ⟨A1, c1, rfl, ho1, hb1⟩
      have HO1 := hd ho1
      have HB1 := hd hb1
      clear ho1 hb1
      go_wp2_with fail
      go_loopw [6, 27] (fun v i wr => ∃ k A2 c2 ls, v = .slice A2 ls.length c2 ∧ i = .int .i64 ((k : Nat) : Int) ∧ Hid (wr.ownsRow w.heap.size 34 11 (.slice A2 ls.length c2) ls.length (cellsR ls)) ∧ Hid (Below w.heap.size w wr) ∧ ((k = 0 ∧ ls = []) ∨ (k = 1 ∧ ls = cs) ∨ (k = 2 ∧ ls = cs ++ ds))) (fun _ i _ => 2 - (intOf i).toNat)
      case atStart => exact ⟨0, A1, c1, [], rfl, rfl, HO1, HB1, .inl ⟨rfl, rfl⟩⟩
      case round =>
        obtain ⟨k, A2, c2, ls, rfl, rfl, HO, HBr, hk⟩ := hrel
        clear HO1 HB1
        rcases hk with ⟨rfl, rfl⟩ | ⟨rfl, rfl⟩ | ⟨rfl, rfl⟩
        · have hc := (HBr.out.cell (p := ⟨b, o, none⟩) hb).trans H0.out
          go_wp2_with (at_builtin; refine wpList_append_GX refG _ rfl (.tmp 31) (.tmp 32) rfl w.heap.size _ 0 [] rfl HO.out A n c w.heap.size (cellsR cs) rfl (by rw [cellsR_len, HN.out]) (HA.out.below HBr.out) (cellsR_all cs) (by unfold maxLen; omega) (by omega) HBr.out.size ?_; intro A3 c3 w3 ho3 hg3 hat3)
          rw [Nat.zero_add, List.nil_append] at ho3
          have HO3 := hd ho3
          have HB3 := hd (grown_below HBr.out hg3 (fun j hj => (HO.out.lt j hj).1))
          clear ho3 hg3 hat3
          go_roundw
          case rel => exact ⟨1, A3, c3, cs, by rw [HN.out], by go_num, by rw [HN.out]; exact HO3, HB3, .inr (.inl ⟨rfl, rfl⟩)⟩
          case measure => simp [intOf]
        · have hc := (HBr.out.cell (p := ⟨b, o + 1, none⟩) hb).trans H1.out
          have ln' := HN.out
          go_wp2_with (at_builtin; refine wpList_append_GX refG _ rfl (.tmp 31) (.tmp 32) rfl w.heap.size _ ls.length (cellsR ls) rfl HO.out B m d w.heap.size (cellsR ds) rfl (by rw [cellsR_len, HM.out]) (HB.out.below HBr.out) (cellsR_all ds) (by unfold maxLen; omega) (by omega) HBr.out.size ?_; intro A3 c3 w3 ho3 hg3 hat3)
          rw [← cellsR_app] at ho3
          have HO3 := hd ho3
          have HB3 := hd (grown_below HBr.out hg3 (fun j hj => (HO.out.lt j hj).1))
          clear ho3 hg3 hat3
          go_roundw
          case rel => exact ⟨2, A3, c3, ls ++ ds, by rw [List.length_append, HM.out, HN.out], by go_num, by rw [List.length_append, HM.out]; exact HO3, HB3, .inr (.inr ⟨rfl, rfl⟩)⟩
          case measure => simp [intOf]
        · have hl : (cs ++ ds).length = n + m := by rw [List.length_append, HN.out, HM.out]
          rw [hl] at HO
          rw [hl]
          clear hl
          go_wp2
          go_ret
          exact ⟨A2, c2, rfl, HO.out, HBr.out⟩

end Go.Proofs.Ytmglnjmnabjjgaa

namespace Go.Proofs.Ytmglnjmnabjjgaa
open Go.RowKit

theorem NewRow.lr {w w' : World} {n : Nat} {cs : List RC} {us : List RefP} {e : Ending} (h : NewRow w n cs e w') (hr : RkL w cs us) : ∃ A c, e = .returned (.slice A n c) ∧ LR w' A cs us ∧ Below w.heap.size w w' := by
  obtain ⟨A, c, rfl, ho, hb⟩ := h
  exact ⟨A, c, rfl, (hr.later hb).lr (lrow_vl ho).2, hb⟩
end Go.Proofs.Ytmglnjmnabjjgaa

namespace Go.Proofs.Ytmglnjmnabjjgaa
open Go.RowKit

section
variable {P : Program} {ops : Array Oper} {Q : Exit → Act → World → Prop} {S : World → Prop} {m : Nat}
/-- Whatever order is picked from here on; S holds behind every operation until m has run. -/
def wpAnyM (P : Program) (ops : Array Oper) (Q : Exit → Act → World → Prop) (S : World → Prop) (m : Nat) : Nat → Array Bool → Act → World → Prop
  | 0, listed, a, w => Region.ready .any ops listed = [] ∧ Q .normal a w
  | n + 1, listed, a, w => (Region.ready .any ops listed = [] → Q .normal a w) ∧
      ∀ i ∈ Region.ready .any ops listed, wpOp P ops Q i (fun a' w' => ((listed.setIfInBounds i true).getD m true = false → S w') ∧ wpAnyM P ops Q S m n (listed.setIfInBounds i true) a' w') a w
set_option maxRecDepth 4000 in
theorem any_of_M : ∀ (n : Nat) (listed : Array Bool) (a : Act) (w : World), wpAnyM P ops Q S m n listed a w → wpAny P .any ops Q n listed a w
  | 0, _, _, _, h => h
  | n + 1, _, _, _, h => ⟨h.1, fun i hi => wpOp_mono (fun a' w' h' => any_of_M n _ a' w' h'.2) (h.2 i hi)⟩
set_option maxRecDepth 4000 in
/-- What m waits for, and yields the same in every world that meets S, may be taken first. -/
theorem M_first {i : Nat} {oi om : Oper} {v : Value} (hi : ops[i]? = some oi) (hsel : Region.noSelect ops = true) (hm : ops[m]? = some om) (hmi : ∃ e ∈ om.after, Region.binds .any e = true ∧ e.on = i) (hne : i ≠ m)
    (hQ : ∀ c a w, Q (.panic c) (a.put oi.dst v) w → Q (.panic c) a w) :
    ∀ (n : Nat) (listed : Array Bool) (a : Act) (w : World),
      (∀ j oj, ops[j]? = some oj → j ≠ i → listed.getD j true = false → (∀ e ∈ oj.after, Region.binds .any e = true → e.on ≠ i) → oi.apart ops oj = true) →
      i ∈ Region.ready .any ops listed → listed.getD m true = false → YieldsIf P ops S oi v a → S w →
      wpAnyM P ops Q S m n (listed.setIfInBounds i true) (a.put oi.dst v) w → wpAnyM P ops Q S m (n + 1) listed a w := by
  have sel := Region.noSelect_spec hsel
  intro n
  induction n with
  | zero =>
    intro listed a w _ hr _ hy hS H
    refine ⟨fun h => absurd hr (by rw [h]; simp), fun j hj => ?_⟩
    rcases Classical.em (j = i) with e | e
    · subst e; exact hy.wpOp hi hS ⟨fun _ => hS, H⟩
    · have := ready_mono hj e
      rw [H.1] at this; cases this
  | succ n ih =>
    intro listed a w hfree hr hlm hy hS H
    refine ⟨fun h => absurd hr (by rw [h]; simp), fun j hj => ?_⟩
    rcases Classical.em (j = i) with e | e
    · subst e; exact hy.wpOp hi hS ⟨fun _ => hS, H⟩
    · obtain ⟨hjun, oj, hoj, hall⟩ := mem_ready.1 hj
      have hiun := (mem_ready.1 hr).1
      have hno : ∀ e ∈ oj.after, Region.binds .any e = true → e.on ≠ i := fun x hx hb heq => by
        have h1 := hall x hx hb
        rw [heq] at h1
        rcases Nat.lt_or_ge i listed.size with h' | h'
        · simp [h'] at hiun h1; rw [hiun] at h1; cases h1
        · simp [Array.getElem?_eq_none h'] at h1
      have hjm : ¬ j = m := fun ej => by
        subst ej
        rw [hm] at hoj
        injection hoj with hoj
        subst hoj
        obtain ⟨x, hx, hx2, hx3⟩ := hmi
        exact hno x hx hx2 hx3
      have h2 := wpOp_putIf hoj (hfree j oj hoj e hjun hno) (fun cs b => sel i oi cs b hi) (fun cs b => sel j oj cs b hoj) hQ hy (H.2 j (ready_mono hj e))
      refine wpOp_mono (fun a' w' h3 => ?_) h2
      have hS' : S w' := h3.2.1 (by rw [getD_set_ne true hjm, getD_set_ne true hne]; exact hlm)
      refine ⟨fun _ => hS', ih (listed.setIfInBounds j true) a' w' (fun k ok hk hki hun hn => hfree k ok hk hki ?_ hn) (ready_mono hr (Ne.symm e)) (by rw [getD_set_ne true hjm]; exact hlm) h3.1 hS' ?_⟩
      · rcases Classical.em (j = k) with ek | ek
        · subst ek; exact hjun
        · rw [getD_set_ne true ek] at hun; exact hun
      · rw [Array.setIfInBounds_comm _ _ e]; exact h3.2.2
set_option maxRecDepth 4000 in
/-- What yields the same in every world may be taken first. -/
theorem M_free {i : Nat} {oi : Oper} {v : Value} (hi : ops[i]? = some oi) (hsel : Region.noSelect ops = true) (hne : i ≠ m)
    (hQ : ∀ c a w, Q (.panic c) (a.put oi.dst v) w → Q (.panic c) a w) :
    ∀ (n : Nat) (listed : Array Bool) (a : Act) (w : World),
      (∀ j oj, ops[j]? = some oj → j ≠ i → listed.getD j true = false → (∀ e ∈ oj.after, Region.binds .any e = true → e.on ≠ i) → oi.apart ops oj = true) →
      i ∈ Region.ready .any ops listed → (listed.getD m true = false → S w) → YieldsIf P ops (fun _ => True) oi v a →
      wpAnyM P ops Q S m n (listed.setIfInBounds i true) (a.put oi.dst v) w → wpAnyM P ops Q S m (n + 1) listed a w := by
  have sel := Region.noSelect_spec hsel
  intro n
  induction n with
  | zero =>
    intro listed a w _ hr hS hy H
    refine ⟨fun h => absurd hr (by rw [h]; simp), fun j hj => ?_⟩
    rcases Classical.em (j = i) with e | e
    · subst e; exact hy.wpOp hi trivial ⟨fun h => hS (by rw [getD_set_ne true hne] at h; exact h), H⟩
    · have := ready_mono hj e
      rw [H.1] at this; cases this
  | succ n ih =>
    intro listed a w hfree hr hS hy H
    refine ⟨fun h => absurd hr (by rw [h]; simp), fun j hj => ?_⟩
    rcases Classical.em (j = i) with e | e
    · subst e; exact hy.wpOp hi trivial ⟨fun h => hS (by rw [getD_set_ne true hne] at h; exact h), H⟩
    · obtain ⟨hjun, oj, hoj, hall⟩ := mem_ready.1 hj
      have hiun := (mem_ready.1 hr).1
      have hno : ∀ e ∈ oj.after, Region.binds .any e = true → e.on ≠ i := fun x hx hb heq => by
        have h1 := hall x hx hb
        rw [heq] at h1
        rcases Nat.lt_or_ge i listed.size with h' | h'
        · simp [h'] at hiun h1; rw [hiun] at h1; cases h1
        · simp [Array.getElem?_eq_none h'] at h1
      have h2 := wpOp_putIf hoj (hfree j oj hoj e hjun hno) (fun cs b => sel i oi cs b hi) (fun cs b => sel j oj cs b hoj) hQ hy (H.2 j (ready_mono hj e))
      refine wpOp_mono (fun a' w' h3 => ?_) h2
      have hS' : (listed.setIfInBounds j true).getD m true = false → S w' := fun h => h3.2.1 (by rw [← Array.setIfInBounds_comm _ _ e, getD_set_ne true hne]; exact h)
      refine ⟨hS', ih (listed.setIfInBounds j true) a' w' (fun k ok hk hki hun hn => hfree k ok hk hki ?_ hn) (ready_mono hr (Ne.symm e)) hS' h3.1 ?_⟩
      · rcases Classical.em (j = k) with ek | ek
        · subst ek; exact hjun
        · rw [getD_set_ne true ek] at hun; exact hun
      · rw [Array.setIfInBounds_comm _ _ e]; exact h3.2.2
/-- Operation m waits for i. -/
def waitsM (ops : Array Oper) (m i : Nat) : Bool := match ops[m]? with
  | some o => (o.after.toList.any fun e => Region.binds .any e && e.on == i) && !(i == m)
  | none => false
set_option maxRecDepth 4000 in
theorem waitsM_spec {i : Nat} (h : waitsM ops m i = true) : ∃ om, ops[m]? = some om ∧ (∃ e ∈ om.after, Region.binds .any e = true ∧ e.on = i) ∧ i ≠ m := by
  unfold waitsM at h
  split at h
  · rename_i o ho
    rw [Bool.and_eq_true] at h
    obtain ⟨x, hx, hx2⟩ := List.any_eq_true.1 h.1
    simp only [Bool.and_eq_true, beq_iff_eq] at hx2
    exact ⟨o, ho, ⟨x, by simpa using hx, hx2.1, hx2.2⟩, by simpa using h.2⟩
  · cases h
set_option maxRecDepth 4000 in
theorem M_take {i : Nat} {oi : Oper} (v : Value) {n : Nat} {listed : Array Bool} {a : Act} {w : World} (hi : ops[i]? = some oi) (hs : Region.noSelect ops = true) (hz : waitsM ops m i = true) (hl : listed.getD m true = false) (hf : Region.free .any ops listed i = true) (hr : (Region.ready .any ops listed).contains i = true)
    (hQ : ∀ c a w, Q (.panic c) (a.put oi.dst v) w → Q (.panic c) a w) (hw : Region.wanted oi (yielded ops a.tmps) = true) (hy : ∀ w, S w → (execOp a.eval oi).run P w = .ok (.value v) w) (hS : S w)
    (h : wpAnyM P ops Q S m n (listed.setIfInBounds i true) (a.put oi.dst v) w) : wpAnyM P ops Q S m (n + 1) listed a w := by
  obtain ⟨om, hm, hmi, hne⟩ := waitsM_spec hz
  exact M_first hi hs hm hmi hne hQ n listed a w (Region.free_spec hi hf) (by simpa using hr) hl (.inl ⟨hw, hy⟩) hS h
set_option maxRecDepth 4000 in
theorem M_pure {i : Nat} {oi : Oper} (v : Value) {n : Nat} {listed : Array Bool} {a : Act} {w : World} (hi : ops[i]? = some oi) (hs : Region.noSelect ops = true) (hne : (!(i == m)) = true) (hf : Region.free .any ops listed i = true) (hr : (Region.ready .any ops listed).contains i = true)
    (hQ : ∀ c a w, Q (.panic c) (a.put oi.dst v) w → Q (.panic c) a w) (hw : Region.wanted oi (yielded ops a.tmps) = true) (hy : ∀ w, (execOp a.eval oi).run P w = .ok (.value v) w) (hS : S w)
    (h : wpAnyM P ops Q S m n (listed.setIfInBounds i true) (a.put oi.dst v) w) : wpAnyM P ops Q S m (n + 1) listed a w :=
  M_free hi hs (by simpa using hne) hQ n listed a w (Region.free_spec hi hf) (by simpa using hr) (fun _ => hS) (.inl ⟨hw, fun w _ => hy w⟩) h
set_option maxRecDepth 4000 in
/-- Behind m nothing is asked. -/
theorem M_end : ∀ {n : Nat} {listed : Array Bool} {a : Act} {w : World}, listed.getD m true = true → wpAnyY P ops Q (fun _ => True) (fun _ => false) n listed a w → wpAnyM P ops Q S m n listed a w
  | 0, _, _, _, _, h => h
  | n + 1, listed, _, _, hl, h => ⟨h.1, fun i hi => wpOp_mono (fun a' w' h' => by
      have h2 : (listed.setIfInBounds i true).getD m true = true := by
        rcases Classical.em (i = m) with e | e
        · subst e
          rcases Nat.lt_or_ge i listed.size with h3 | h3
          · simp [h3]
          · simp [h3]
        · rw [getD_set_ne true e]; exact hl
      exact ⟨fun h3 => (by rw [h2] at h3; cases h3), M_end h2 h'.2⟩) (h.2 i hi)⟩
set_option maxRecDepth 4000 in
/-- The milestone itself, where nothing else may come up; behind it nothing is asked. -/
theorem M_one {o : Oper} {n : Nat} {listed : Array Bool} {a : Act} {w : World} (hr : Region.ready .any ops listed = [m]) (hi : ops[m]? = some o) (hl : (listed.setIfInBounds m true).getD m true = true)
    (h : ∀ K : Act → World → Prop, (∀ a' w', wpAnyY P ops Q (fun _ => True) (fun _ => false) n (listed.setIfInBounds m true) a' w' → K a' w') → if Region.wanted o (yielded ops a.tmps) = true then Oper.wp P o a w K Q else False) : wpAnyM P ops Q S m (n + 1) listed a w := by
  refine ⟨fun e => absurd (e.symm.trans hr) (by simp), fun j hj => ?_⟩
  rw [hr, List.mem_singleton] at hj
  subst hj
  have h1 := h (fun a' w' => ((listed.setIfInBounds j true).getD j true = false → S w') ∧ wpAnyM P ops Q S j n (listed.setIfInBounds j true) a' w') (fun a' w' h2 => ⟨fun h3 => (by rw [hl] at h3; cases h3), M_end hl h2⟩)
  unfold wpOp
  simp only [hi]
  split
  · rename_i hw
    rw [if_pos hw] at h1
    exact .inl h1
  · rename_i hw
    rw [if_neg hw] at h1
    exact h1.elim
set_option maxRecDepth 4000 in
theorem M_start {id : Nat} {a : Act} {w : World} (hm : P.follows .mixedOrders = true) (h : wpAnyM P ops Q S m ops.size (Array.replicate ops.size false) a w.drew) : (Code.region id ops true).wp P Q a w :=
  wp_region_any hm (any_of_M _ _ _ _ h)
end

end Go.Proofs.Ytmglnjmnabjjgaa

namespace Go.Proofs.Ytmglnjmnabjjgaa
def affOk (aff : Int) : Prop := aff = 0 ∨ aff = 1 ∨ aff = 2
instance (aff : Int) : Decidable (affOk aff) := by unfold affOk; infer_instance
end Go.Proofs.Ytmglnjmnabjjgaa

namespace Go.Proofs.Ytmglnjmnabjjgaa
/-- A ref that is taken out. -/
def goneR (r : RefP) : RefP := { zeroR with id := r.id, kind := r.kind, aff := r.aff }
end Go.Proofs.Ytmglnjmnabjjgaa

namespace Go.Proofs.Ytmglnjmnabjjgaa
open Go.RowKit

/-- Values put into a list, from a place on. -/
def putL (xs : List Value) : Nat → List Value → List Value
  | _, [] => xs
  | j, v :: r => putL (xs.set j v) (j + 1) r
set_option maxRecDepth 4000 in
theorem putL_all : ∀ (vs : List Value) (j : Nat) (xs : List Value) (cur : Array Value), (∀ (i : Nat) (v : Value), xs[i]? = some v → cur[i]? = some v) → ∀ (i : Nat) (v : Value), (putL xs j vs)[i]? = some v → (putAll cur j vs)[i]? = some v
  | [], _, _, _, h => h
  | u :: r, j, xs, cur, h => putL_all r (j + 1) (xs.set j u) (cur.setIfInBounds j u) fun i v hv => by
      rw [List.getElem?_set] at hv
      rw [Array.getElem?_setIfInBounds]
      split at hv
      · rename_i e
        rw [if_pos e]
        split at hv
        · rename_i hl
          obtain ⟨x, hx⟩ : ∃ x, xs[j]? = some x := ⟨_, List.getElem?_eq_getElem hl⟩
          rw [if_pos (Array.getElem?_eq_some_iff.1 (h _ _ hx)).1]
          exact hv
        · cases hv
      · rename_i e
        rw [if_neg e]
        exact h i v hv
set_option maxRecDepth 4000 in
/-- A store into a row of refs. -/
theorem wp_store_g {ty : TypeId} {n : Nat} (hsz : (Try.prog.info? ty).map (·.size) = some n) {op : Oper} {a : Act} {W : World} {K : Act → World → Prop} {Q : Exit → Act → World → Prop} {g : Nat} {ds : List RC} (h : RowG W g ds) (x y : Operand) (ho : op.op = .store ty x y) (hd : op.dst = none)
    (j : Nat) (v : Value) (vs : List Value) (ds' : List RC) (hx : a.eval x = .pointer (some ⟨g, j, none⟩)) (hy : a.eval y = v) (hv : v.cells = vs.toArray) (hn : vs.length = n) (h1 : ∀ u ∈ vs, u.oneCell' = true) (hp : 0 < n) (hj : j + vs.length ≤ (cellsR ds).length) (hds : cellsR ds' = putL (cellsR ds) j vs)
    (hk : ∀ W', RowG W' g ds' → Off g W W' → K a W') : Oper.wp Try.prog op a W K Q := by
  obtain ⟨cur, hc, hcc⟩ := h
  have hl : j + vs.length ≤ cur.size := by
    have hi : j + vs.length - 1 < (cellsR ds).length := by omega
    have := (Array.getElem?_eq_some_iff.1 (hcc _ _ (List.getElem?_eq_getElem hi))).1
    omega
  refine wp_store_any hsz hc x y ho hd j v vs hx hy hv hn h1 hl (fun W' hv' ho' => hk W' ⟨_, hv', fun i u hu => ?_⟩ ho')
  rw [hds] at hu
  exact putL_all vs j _ cur hcc i u hu
set_option maxRecDepth 4000 in
theorem sz_path14 : (Try.prog.info? 28).map (·.size) = some 1 := by kernel_rfl
set_option maxRecDepth 4000 in
theorem path_one {A : Option Addr} {n c : Nat} : ∀ u ∈ [Value.slice A n c], u.oneCell' = true := by
  intro u hu
  simp at hu
  subst hu
  rfl

/-- A ref gone along, in its row. -/
def AlongOk (g : Nat) (d : RC) (res : RefP × Bool) (W : World) (e : Ending) (w' : World) : Prop := ∃ d', e = .returned (.bool res.2) ∧ RowG w' g [d'] ∧ Off g W w' ∧ d'.id = d.id ∧ d'.kind = d.kind ∧ d'.aff = d.aff ∧ (res.2 = true → RkA w' d' res.1)
set_option maxRecDepth 4000 in
theorem OkA.xqa {w : World} {o : OC} {a : OpP} (ho : OkA w o a) (ta : Tiny a) : XA w (.slice o.Q o.lq o.cq) a.q := ⟨_, _, _, rfl, ho.hlq, by have := ta.hq; have := ho.hlq; omega, ho.hcq, ho.hq⟩
set_option maxRecDepth 4000 in
theorem OkA.xta {w : World} {o : OC} {a : OpP} (ho : OkA w o a) (ta : Tiny a) : XA w (.slice o.T o.lt o.ct) a.t := ⟨_, _, _, rfl, ho.hlt, by have := ta.ht; have := ho.hlt; omega, ho.hct, ho.ht⟩
set_option maxRecDepth 4000 in
theorem hmove_at {w : World} {A : Option Addr} {n c : Nat} {o : OC} {p : List Int} {a : OpP} {r : List Int × Bool} (hp : PathC w A n c p) (hl : p.length ≤ 1000) (ho : OkA w o a) (ta : Tiny a) (hr : moveL a.k a.q a.t a.z p = r) : Calls Try.prog 39 #[.slice A n c, .agg o.row] w (NewPB w r) := by
  have hx : XA w (.slice A n c) p := ⟨A, n, c, rfl, hp.len, by have := hp.len; omega, hp.cap, hp.il⟩
  have hk := ho.hk
  have hz := ho.hz
  rw [hk, hz] at hr
  exact move_at hx (ho.xqa ta) (ho.xta ta) hr
set_option maxRecDepth 100000 in
set_option maxHeartbeats 8000000 in
theorem halong1 {w : World} {g : Nat} {d : RC} {r : RefP} {o : OC} {a : OpP} {x : List Int} {b : Bool} (hrow : RowG w g [d]) (hk : ∀ W, Off g w W → RkA W d r) (ho : OkA w o a) (ta : Tiny a) (hl : r.p.length ≤ 1000) (hm : moveL a.k a.q a.t a.z r.p = (x, b)) :
    Calls Try.prog 38 #[.pointer (some ⟨g, 0, none⟩), .agg o.row] w (AlongOk g d ({ r with p := x }, b) w) := by
  have hv := VarR.new w 53 o.row
  have hb : Below w.heap.size w (w.alloc (.cells o.row 53)) := (Below.refl _ _).alloc (Nat.le_refl _) _
  have HO := hd (ho.later hb)
  have HKR := hd hk
  have HTA := hd ta
  have HM := hd hm
  have HL := hd hl
  have HRW := hd (hrow.keep hb)
  have HV := hd hv
  have hgl := hrow.lt
  have HOF := hd (Off.of_below (g := g) hb)
  obtain ⟨W0, hW⟩ : ∃ W0, w.alloc (.cells o.row 53) = W0 := ⟨_, rfl⟩
  rw [hW] at HO HRW HV HOF
  have HW := hd hW
  clear hrow hk ho ta hm hl hv hb hW
  go_enter Try.func38, Try.ntmps38
  go_upto_region 1 with fail
  rw [HW.out]
  refine M_start (S := fun W' => RowG W' g [d] ∧ VarR 53 W' w.heap.size o.row) (m := 6) (by kernel_rfl) ?_
  have HSS := hd (show RowG W0.drew g [d] ∧ VarR 53 W0.drew w.heap.size o.row from ⟨HRW.out, HV.out⟩)
  refine M_pure (i := 0) (n := 13) (.pointer (some ⟨g, 0, none⟩)) rfl (by kernel_rfl) (by kernel_rfl) (by kernel_rfl) (by kernel_rfl) (fun _ _ _ h => h) (by rfl) (fun W9 => ?_) HSS.out ?_
  · go_simp
  simp only [Act.put, List.setIfInBounds_toArray, List.set_cons_succ, List.set_cons_zero, List.getElem_toArray, List.getElem_cons_zero]
  refine M_pure (i := 1) (n := 12) (.pointer (some ⟨g, 0, none⟩)) rfl (by kernel_rfl) (by kernel_rfl) (by kernel_rfl) (by kernel_rfl) (fun _ _ _ h => h) (by rfl) (fun W9 => ?_) HSS.out ?_
  · go_simp
  simp only [Act.put, List.setIfInBounds_toArray, List.set_cons_succ, List.set_cons_zero, List.getElem_toArray, List.getElem_cons_succ, List.getElem_cons_zero]
  refine M_pure (i := 2) (n := 11) (.pointer (some ⟨g, 0, none⟩)) rfl (by kernel_rfl) (by kernel_rfl) (by kernel_rfl) (by kernel_rfl) (fun _ _ _ h => h) (by rfl) (fun W9 => ?_) HSS.out ?_
  · go_simp
  simp only [Act.put, List.setIfInBounds_toArray, List.set_cons_succ, List.set_cons_zero, List.getElem_toArray, List.getElem_cons_succ, List.getElem_cons_zero]
  refine M_pure (i := 3) (n := 10) (.pointer (some ⟨g, 4, none⟩)) rfl (by kernel_rfl) (by kernel_rfl) (by kernel_rfl) (by kernel_rfl) (fun _ _ _ h => h) (by rfl) (fun W9 => ?_) HSS.out ?_
  · go_simp
  simp only [Act.put, List.setIfInBounds_toArray, List.set_cons_succ, List.set_cons_zero, List.getElem_toArray, List.getElem_cons_succ, List.getElem_cons_zero]
  refine M_take (i := 4) (n := 9) (.slice d.P d.np d.cp) rfl (by kernel_rfl) (by kernel_rfl) (by kernel_rfl) (by kernel_rfl) (by kernel_rfl) (fun _ _ _ h => h) (by rfl) (fun W9 hW9 => ?_) HSS.out ?_
  · have h9 : W9.cell? ⟨g, 4, none⟩ = some (.slice d.P d.np d.cp) := hW9.1.cell rfl
    go_simp
  simp only [Act.put, List.setIfInBounds_toArray, List.set_cons_succ, List.set_cons_zero, List.getElem_toArray, List.getElem_cons_succ, List.getElem_cons_zero]
  refine M_take (i := 5) (n := 8) (.agg o.row) rfl (by kernel_rfl) (by kernel_rfl) (by kernel_rfl) (by kernel_rfl) (by kernel_rfl) (fun _ _ _ h => h) (by rfl) (fun W9 hW9 => ?_) HSS.out ?_
  · exact exec_load_row rowT_op hW9.2 rfl _ rfl rfl
  simp only [Act.put, List.setIfInBounds_toArray, List.set_cons_succ, List.set_cons_zero, List.getElem_toArray, List.getElem_cons_succ, List.getElem_cons_zero]
  have HOF := hd (HOF.out.trans (Off.of_below (Below.refl W0.heap.size W0).drew))
  have HO := hd (HO.out.later (Below.refl W0.heap.size W0).drew)
  obtain ⟨W1, hW1⟩ : ∃ W1, W0.drew = W1 := ⟨_, rfl⟩
  rw [hW1] at HSS HOF HO ⊢
  clear hW1
  refine M_one (n := 7) (by kernel_rfl) rfl (by kernel_rfl) (fun K hK => ?_)
  rw [if_pos (by rfl)]
  go_simp
  go_at_call 39
  refine (hmove_at (HKR.out _ HOF.out).hp HL.out HO.out HTA.out HM.out).mono ?_
  rintro e w2 ⟨v, rfl, hv, b9⟩
  have hlx := hv.open_
  simp only at hlx hv
  obtain ⟨lx, hle⟩ : ∃ k, x.length = k := ⟨_, rfl⟩
  rw [hle] at hlx
  obtain ⟨X, cx, rfl, hcx, hmx, hil⟩ := hlx
  have HLX := hd hle
  have HMX := hd hmx
  clear hle hmx
  have HIL := hd (own_stab hv)
  have HCX := hd hcx
  have HRW := hd (HSS.out.1.keep b9)
  have HOF := hd (HOF.out.trans (Off.of_below b9))
  have hgl1 := HSS.out.1.lt
  clear hv hil b9 hcx HSS
  refine hK _ _ ?_
  clear hK K
  simp only
  refine Y_take (i := 7) (n := 6) (.tuple #[.slice X lx cx, .bool b]) rfl (by kernel_rfl) (by kernel_rfl) (by kernel_rfl) (by kernel_rfl) (fun _ _ _ h => h) (by rfl) (fun W9 _ => ?_) trivial ?_
  · go_simp
  simp only [Act.put, List.setIfInBounds_toArray, List.set_cons_succ, List.set_cons_zero, List.getElem_toArray, List.getElem_cons_succ, List.getElem_cons_zero]
  refine Y_take (i := 8) (n := 5) (.slice X lx cx) rfl (by kernel_rfl) (by kernel_rfl) (by kernel_rfl) (by kernel_rfl) (fun _ _ _ h => h) (by rfl) (fun W9 _ => ?_) trivial ?_
  · go_simp
  simp only [Act.put, List.setIfInBounds_toArray, List.set_cons_succ, List.set_cons_zero, List.getElem_toArray, List.getElem_cons_succ, List.getElem_cons_zero]
  refine Y_take (i := 9) (n := 4) (.bool b) rfl (by kernel_rfl) (by kernel_rfl) (by kernel_rfl) (by kernel_rfl) (fun _ _ _ h => h) (by rfl) (fun W9 _ => ?_) trivial ?_
  · go_simp
  simp only [Act.put, List.setIfInBounds_toArray, List.set_cons_succ, List.set_cons_zero, List.getElem_toArray, List.getElem_cons_succ, List.getElem_cons_zero]
  refine Y_take (i := 10) (n := 3) (.pointer (some ⟨g, 0, none⟩)) rfl (by kernel_rfl) (by kernel_rfl) (by kernel_rfl) (by kernel_rfl) (fun _ _ _ h => h) (by rfl) (fun W9 _ => ?_) trivial ?_
  · go_simp
  simp only [Act.put, List.setIfInBounds_toArray, List.set_cons_succ, List.set_cons_zero, List.getElem_toArray, List.getElem_cons_succ, List.getElem_cons_zero]
  refine Y_take (i := 11) (n := 2) (.pointer (some ⟨g, 4, none⟩)) rfl (by kernel_rfl) (by kernel_rfl) (by kernel_rfl) (by kernel_rfl) (fun _ _ _ h => h) (by rfl) (fun W9 _ => ?_) trivial ?_
  · go_simp
  simp only [Act.put, List.setIfInBounds_toArray, List.set_cons_succ, List.set_cons_zero, List.getElem_toArray, List.getElem_cons_succ, List.getElem_cons_zero]
  refine Y_one (i := 12) (n := 1) (by kernel_rfl) rfl (fun K hK => ?_)
  rw [if_pos (by rfl)]
  refine wp_store_g sz_path14 HRW.out _ _ rfl rfl 4 (.slice X lx cx) [.slice X lx cx] [{ d with P := X, np := lx, cp := cx }] rfl rfl rfl rfl path_one (by decide) (by rw [cellsR_len]; show 4 + 1 ≤ 1 * 11; decide) rfl ?_
  intro W5 hr5 ho5
  have HRW := hd hr5
  have HOF := hd (HOF.out.trans ho5)
  have HRK := hd (show RkA W5 { d with P := X, np := lx, cp := cx } { r with p := x } from { HKR.out _ HOF.out with hp := ⟨HLX.out, HCX.out, Nat.le_trans HCX.out (by have h1 := HMX.out; unfold maxLen at h1; omega), HIL.out W5 (High.off ho5 hgl1)⟩ })
  clear hr5 ho5 HIL
  refine hK _ _ (fun _ => trivial) ?_
  clear hK K
  refine Y_one (i := 13) (n := 0) (by kernel_rfl) rfl (fun K hK => ?_)
  rw [if_pos (by rfl)]
  go_simp
  refine hK _ _ (fun _ => trivial) (Y_done (by kernel_rfl) ?_)
  clear hK K
  go_wp2_with fail
  go_ret
  exact ⟨_, rfl, HRW.out, HOF.out, rfl, rfl, rfl, fun _ => HRK.out⟩

end Go.Proofs.Ytmglnjmnabjjgaa
