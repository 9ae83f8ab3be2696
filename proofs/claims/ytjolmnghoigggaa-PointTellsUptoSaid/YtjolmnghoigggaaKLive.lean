/- The chapter's example, and whether paths are short. -/
import Derived.Test.YtjolmnghoigggaaKFind
import Derived.Test.YtjolmnghoigggaaTLives
namespace Go.Proofs.Ytjolmnghoigggaa
open Go.RowKit

theorem ex_lvs : lvs exT = [[0], [1]] := rfl
set_option maxRecDepth 4000 in
theorem ex_last : LastIs exT allB (some [1]) := by
  have := lvs_last (n := exT) (k := 1) (by rw [ex_lvs]; rfl)
  rwa [ex_lvs] at this
set_option maxRecDepth 4000 in
theorem ex_size : sizeT exT ≤ 1048576 := by decide
set_option maxRecDepth 4000 in
theorem ex_po : pO (offT exT) (some [1]) = ([1], 2) := rfl
set_option maxRecDepth 4000 in
theorem ex_eo : eO (some [1]) = 0 := rfl

set_option maxRecDepth 100000 in
set_option maxHeartbeats 8000000 in
theorem live7_any (w : World) : Calls Try.prog 9 #[] w (Still (.bool true) w) := by
  go_enter Try.func9, Try.ntmps9
  go_upto_region 2 with (first
    | (go_at_call 37; refine (leaf_any { data := #[97] } [97] 1 rfl runes_a (by omega) _).mono ?_; rintro e w1 ⟨g1, c1, rfl, v1, b1, hc1⟩; have V1 := hd v1; have B1 := hd b1; clear v1 b1)
    | (go_at_call 37; refine (leaf_any { data := #[98, 99] } [98, 99] 2 rfl runes_bc (by omega) _).mono ?_; rintro e w2 ⟨g2, c2, rfl, v2, b2, hc2⟩; have V2 := hd v2; have B2 := hd b2; clear v2 b2)
    | (go_at_call 36; refine (elem_p _ _ _ _).mono ?_; rintro e w4 ⟨gp, cp, rfl, v3, b3, hcp⟩; have V3 := hd v3; have B3 := hd b3; clear v3 b3)
    | (go_at_call 22; refine Calls.mono (plast_any 2 _ _ exT ex_size (ex_node hcp hc1 hc2 V3.out ((V1.out.later B2.out).later (ex_below B3.out)) (V2.out.later (ex_below B3.out)) (b := w2.heap.size) (ex_lt B3.out) (fun j u hj => (B3.out.cell (by simp)).trans ((World.cell?_alloc_at _ _ _ _ rfl).trans hj)))) ?_; intro e w5 h5; obtain ⟨r5, hP5, A5, n5, c5, e5, rfl, ho5, b5⟩ := h5; obtain rfl := LastIs.same hP5 ex_last; rw [ex_po] at e5 ho5 ⊢; rw [ex_eo]; obtain rfl : n5 = 1 := e5; have HO5 := hd ho5; have B5 := hd b5; clear ho5 b5 hP5))
  have B9 := hd ((B1.out.trans (B2.out.mono B1.out.size)).trans ((ex_below B3.out).mono (Nat.le_trans B1.out.size B2.out.size)))
  have B8 := hd (B9.out.trans (B5.out.mono B9.out.size))
  obtain ⟨W6, hW6⟩ : ∃ W6, W6 = w5.alloc (.cells #[.slice A5 1 c5, .int .i64 2] 29) := ⟨_, rfl⟩
  rw [← hW6]
  have hb6 : Below w5.heap.size w5 W6 := hW6 ▸ (Below.refl _ _).alloc (Nat.le_refl _) _
  have hq6 : W6.heap[w5.heap.size]? = some (.cells #[.slice A5 1 c5, .int .i64 2] 29 (0, 0)) := hW6 ▸ heap_alloc_new _ _
  obtain ⟨q0, q1, _, _⟩ := blk2 hq6
  obtain ⟨W7, hW7⟩ : ∃ W7, W7 = W6.alloc (.cells #[.int .i64 1] 3) := ⟨_, rfl⟩
  have hb7 : Below W6.heap.size W6 W7 := hW7 ▸ (Below.refl _ _).alloc (Nat.le_refl _) _
  have hil : IL W7 W7.heap.size (some ⟨W6.heap.size, 0, none⟩) [1] := fun _ => ⟨W6.heap.size, 0, rfl, by rw [hW7]; simp, fun k hk => by
    obtain rfl : k = 0 := by simp at hk; omega
    rw [hW7, World.cell?_alloc_at _ _ _ _ rfl]; rfl⟩
  obtain ⟨A', c', e', g1, g2, hil5⟩ := HO5.out.open_
  injection e' with e1 e2 e3
  subst e1 e3
  clear e2 g1 g2
  have HC := hd (prsame_pts A5 (some ⟨W6.heap.size, 0, none⟩) ([1], 2) ([1], 2) 1 1 c5 1 W7 rfl rfl (by omega) (by omega) ((hil5.later hb6).later hb7) hil)
  have HW7 := hd hW7
  have HB := hd (B8.out.trans ((hb6.trans (hb7.mono hb6.size)).mono B8.out.size))
  clear hW6 hb6 hq6 hW7 hb7 hil hil5 HO5 B5 B9 B8 B1 B2 B3 V1 V2 V3 hc1 hc2 hcp
  go_wp2_with (go_at_call 24; rw [← HW7.out]; refine HC.out.mono ?_; rintro e w8 ⟨rfl, b8⟩)
  go_ret
  exact ⟨rfl, HB.out.trans (b8.mono HB.out.size)⟩

end Go.Proofs.Ytjolmnghoigggaa
