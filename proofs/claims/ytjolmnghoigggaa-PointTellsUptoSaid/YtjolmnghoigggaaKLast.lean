/- The last leaf of a node (lastIn); both, for a tree of any depth. -/
import Derived.Test.YtjolmnghoigggaaKAhead
namespace Go.Proofs.Ytjolmnghoigggaa
open Go.RowKit

set_option maxHeartbeats 4000000 in
theorem last_step (d : Nat) (HA : AheadC d) : LastC d := by
  intro w v n hM hn
  obtain ⟨d', lf, ps, tx, ks, PA, pc, TA, tc, KA, kc, hd', rfl, rfl, hps, htx, hf, hks⟩ := hn.open_
  have hl3 := hf.2.2.2.1
  have hl2 := hf.2.2.1
  obtain ⟨W0, hW⟩ : ∃ W0, W0 = (w.alloc (.cells #[.bool lf, .slice PA ps.length pc, .slice TA tx.length tc, .slice KA ks.length kc] 26)).alloc (.cells #[.slice none 0 0, .int .i64 0] 29) := ⟨_, rfl⟩
  have hb0 : Below w.heap.size w W0 := hW ▸ below_mono2 (Below.refl _ _) (Nat.le_refl _)
  have hz0 : W0.heap.size = w.heap.size + 1 + 1 := by rw [hW]; simp
  have e0 := pt_new w (Obj.cells #[Value.bool lf, .slice PA ps.length pc, .slice TA tx.length tc, .slice KA ks.length kc] 26) (Obj.cells #[Value.slice none 0 0, Value.int .i64 0] 29)
  rw [← hW] at e0
  obtain ⟨x0, x1, x2, x3, _, _, _, _⟩ := blkCells e0.1
  obtain ⟨W1, hW1⟩ : ∃ W1, W1 = W0.alloc (.cells #[.int .i64 (ks.length : Int)] 3) := ⟨_, rfl⟩
  have hb1 : Below W0.heap.size W0 W1 := hW1 ▸ (Below.refl _ _).alloc (Nat.le_refl _) _
  have hb9 : Below w.heap.size w W1 := hb0.trans (hb1.mono hb0.size)
  have hil : IL W1 W1.heap.size (some ⟨w.heap.size + 1 + 1, 0, none⟩) [(ks.length : Int)] := fun _ => ⟨w.heap.size + 1 + 1, 0, rfl, by rw [hW1]; simp; omega, fun k hk => by
    obtain rfl : k = 0 := by simp at hk; omega
    rw [hW1, World.cell?_alloc_at _ _ _ _ (by show _ = W0.heap.size; omega)]; rfl⟩
  have HC := hd (HA W1 _ _ (some ⟨w.heap.size + 1 + 1, 0, none⟩) [(ks.length : Int)] 1 1 hM rfl (by omega) (by omega) (hn.later hb9) hil)
  have HX := hd (keepBlk e0.1 hb1)
  have HY := hd (keepBlk e0.2 hb1)
  have HW := hd hW
  have HW1 := hd hW1
  have HB := hd hb9
  have HZ := hd hz0
  have HK := hd (fun q => last_kids (n := .mk lf ps tx ks) (q := q))
  have HS := hd (last_self (n := .mk lf ps tx ks))
  clear hn hps htx hf hks hW hb0 e0 hd' hM hW1 hb1 hb9 hil hz0
  go_enter Try.func44, Try.ntmps44
  go_upto_region 2 with (go_at_call 47; rw [← HW.out, ← HW1.out]; refine HC.out.mono ?_; intro e w3 h3; obtain ⟨r3, A3, k3, c3, o3, hP3, rfl, hb3, hq3⟩ := h3; have HX3 := hd (keepBlk HX.out hb3); have HY3 := hd (keepBlk HY.out hb3); have HB3 := hd (HB.out.trans (hb3.mono HB.out.size)); have HP3 := hd hP3; have HO3 := hd hq3; clear hP3 hb3 hq3 x0 x1 x2 x3)
  obtain ⟨W4, hW4⟩ : ∃ W4, W4 = w3.alloc (.cells #[.slice A3 k3 c3, .int .i64 o3] 29) := ⟨_, rfl⟩
  rw [← hW4]
  have hb4 : Below w3.heap.size w3 W4 := hW4 ▸ (Below.refl _ _).alloc (Nat.le_refl _) _
  have HQ4 := hd (show W4.heap[w3.heap.size]? = some (.cells #[.slice A3 k3 c3, .int .i64 o3] 29 (0, 0)) from hW4 ▸ heap_alloc_new _ _)
  have HX4 := hd (keepBlk HX3.out hb4)
  have HY4 := hd (keepBlk HY3.out hb4)
  have HB4 := hd (HB3.out.trans (hb4.mono HB3.out.size))
  have HO4 := hd (show ∀ q, r3 = some q → k3 = q.length ∧ OwnI W4 w.heap.size (.slice A3 k3 c3) q.reverse ∧ o3 = offT (.mk lf ps tx ks) q from fun q hq => by
    obtain ⟨h1, h2, h3⟩ := HO3.out q hq
    exact ⟨h1, (h2.below hb4).weaken HB.out.size, h3⟩)
  clear hW4 hb4 HO3
  obtain ⟨x0, x1, x2, x3, _, _, _, _⟩ := blkCells HX4.out
  obtain ⟨y0, y1, k0, k1⟩ := blk2 HY4.out
  obtain ⟨q0, q1, _, _⟩ := blk2 HQ4.out
  cases r3 with
  | some q =>
    go_wp2
    have hY6 := blk2_both HY4.out (.slice A3 k3 c3) (.int .i64 o3)
    obtain ⟨z0, z1, _, _⟩ := blk2 hY6
    obtain ⟨e1, ho, e3⟩ := HO4.out q rfl
    have ho6 := (ho.pt (x := .slice A3 k3 c3) (y := .int .i64 o3) HY4.out).2
    clear y0 y1 k0 k1 q0 q1 x0 x1 x2 x3
    refine bodyPost_ret (v := .tuple #[.agg #[.slice A3 k3 c3, .int .i64 o3], .bool true]) (by simp [results, Try.results44, go_sem, z0, z1]) rfl ⟨some q, A3, k3, c3, o3, HK.out q HP3.out, rfl, (HB4.out.setCell (by show _ ≤ w.heap.size + 1; omega) _).setCell (by show _ ≤ w.heap.size + 1; omega) _, fun q' hq' => ?_⟩
    injection hq' with hq'
    subst hq'
    exact ⟨e1, ho6, e3⟩
  | none =>
    have HP9 := hd (HS.out HP3.out)
    clear HO4 q0 q1
    go_wp2
    go_region
    go_wp2
    have hY6 := blk2_both HY4.out (.slice none 0 0) (.int .i64 (tx.length : Int))
    obtain ⟨z0, z1, _, _⟩ := blk2 hY6
    clear y0 y1 k0 k1 x0 x1 x2 x3
    have hb6 : Below w.heap.size w ((W4.setCell ⟨w.heap.size + 1, 0, none⟩ (.slice none 0 0)).setCell ⟨w.heap.size + 1, 1, none⟩ (.int .i64 (tx.length : Int))) := (HB4.out.setCell (by show _ ≤ w.heap.size + 1; omega) _).setCell (by show _ ≤ w.heap.size + 1; omega) _
    refine bodyPost_ret (v := .tuple #[.agg #[.slice none 0 0, .int .i64 (tx.length : Int)], .bool lf]) (by simp [results, Try.results44, go_sem, z0, z1]) rfl ⟨_, none, 0, 0, tx.length, HP9.out, ?_, hb6.drew, fun q' hq' => ?_⟩
    · cases lf <;> rfl
    · cases lf with
      | false => cases hq'
      | true =>
        injection hq' with hq'
        subst hq'
        exact ⟨rfl, OwnI.nil _ _, rfl⟩

set_option maxRecDepth 4000 in
theorem both_any : ∀ d, AheadC d ∧ LastC d
  | 0 => by
    have h : AheadC 0 := fun _ _ _ _ _ _ _ _ _ _ _ hn _ => hn.elim
    exact ⟨h, last_step 0 h⟩
  | d + 1 => by
    have ih := both_any d
    have h := ahead_step d ih.2 ih.1
    exact ⟨h, last_step (d + 1) h⟩

end Go.Proofs.Ytjolmnghoigggaa
