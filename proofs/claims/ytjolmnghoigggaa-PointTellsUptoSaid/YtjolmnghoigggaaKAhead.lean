/- The last leaf of a node, and the last one ahead of a path (lastIn, lastAhead). -/
import Derived.Test.YtjolmnghoigggaaKRev
import Derived.Test.YtjolmnghoigggaaTGets
namespace Go.Proofs.Ytjolmnghoigggaa
open Go.RowKit

/-- What is told of a tree: a leaf's path, the other way round, and an Off. -/
def Got (w : World) (P : Option (List Int) → Prop) (f : List Int → Int) (e : Ending) (w' : World) : Prop := ∃ (r : Option (List Int)) (A : Option Addr) (k c : Nat) (o : Int), P r ∧ e = .returned (.tuple #[.agg #[.slice A k c, .int .i64 o], .bool r.isSome]) ∧ Below w.heap.size w w' ∧
  ∀ q, r = some q → k = q.length ∧ OwnI w' w.heap.size (.slice A k c) q.reverse ∧ o = f q
def LastC (d : Nat) : Prop := ∀ (w : World) (v : Value) (n : NT), sizeT n ≤ 1048576 → NodeAt d w w.heap.size v n → Calls Try.prog 44 #[v] w (Got w (LastIs n allB) (offT n))
def AheadC (d : Nat) : Prop := ∀ (w : World) (v : Value) (n : NT) (A : Option Addr) (p : List Int) (lp c : Nat), sizeT n ≤ 1048576 → p.length = lp → lp ≤ 1000000 → lp ≤ c → NodeAt d w w.heap.size v n → IL w w.heap.size A p → Calls Try.prog 47 #[v, .slice A lp c] w (Got w (LastIs n (aheadB p)) (offT n))

set_option maxRecDepth 4000 in
theorem pt_kept {g : Nat} {w w3 : World} (h : Below g w w3) (x y : Value) : Below g w ((w3.setCell ⟨g, 0, none⟩ x).setCell ⟨g, 1, none⟩ y) := (h.setCell (by exact Nat.le_refl _) x).setCell (by exact Nat.le_refl _) y

set_option maxRecDepth 4000 in
set_option maxHeartbeats 4000000 in
theorem ahead_step (d : Nat) (HI : LastC d) (HA : AheadC d) : AheadC (d + 1) := by
  intro w v n A p lp c hM hlp hl hc hn hp
  obtain ⟨d', lf, ps, tx, ks, PA, pc, TA, tc, KA, kc, hd', rfl, rfl, hps, htx, hf, hks⟩ := hn.open_
  obtain rfl : d = d' := by omega
  have hl3 := hf.2.2.2.1
  obtain ⟨W0, hW⟩ : ∃ W0, W0 = (w.alloc (.cells #[.bool lf, .slice PA ps.length pc, .slice TA tx.length tc, .slice KA ks.length kc] 26)).alloc (.cells #[.slice none 0 0, .int .i64 0] 29) := ⟨_, rfl⟩
  have hb0 : Below w.heap.size w W0 := hW ▸ below_mono2 (Below.refl _ _) (Nat.le_refl _)
  have e0 := pt_new w (Obj.cells #[Value.bool lf, .slice PA ps.length pc, .slice TA tx.length tc, .slice KA ks.length kc] 26) (Obj.cells #[Value.slice none 0 0, Value.int .i64 0] 29)
  rw [← hW] at e0
  have HKS := hd hks
  have HP := hd hp
  have HW := hd hW
  have HB0 := hd hb0
  have HX0 := hd e0.1
  have HY0 := hd e0.2
  have HM := hd hM
  obtain ⟨x0, x1, x2, x3, _, _, _, _⟩ := blkCells HX0.out
  obtain ⟨y0, y1, k0, k1⟩ := blk2 HY0.out
  clear hn hps htx hf hks hp hW hb0 e0 hd' hM
  cases p with
  | nil =>
    obtain rfl : lp = 0 := hlp.symm
    go_enter Try.func47, Try.ntmps47
    go_wp2
    rw [← HW.out]
    refine bodyPost_ret (v := .tuple #[.agg #[.slice none 0 0, .int .i64 0], .bool false]) (by simp [results, Try.results47, go_sem, y0, y1]) rfl ⟨none, none, 0, 0, 0, ahead_nil _, rfl, HB0.out, fun q h => by cases h⟩
  | cons x r =>
    obtain ⟨k, rfl⟩ : ∃ k, lp = k + 1 := ⟨r.length, by rw [← hlp]; simp⟩
    have hrk : r.length = k := by simpa using hlp
    have hz : ((k : Int) + 1 == 0) = false := by simp; omega
    obtain ⟨b, o, rfl, hbl, hc0⟩ := HP.out.at_ (k := 0) (by simp)
    have ex : iAt (x :: r) 0 = x := rfl
    rw [ex, Nat.add_zero] at hc0
    obtain ⟨D, hD, hDA, hrun⟩ := tailI_run (some ⟨b, o, none⟩) k c hc
    have HD := hd (hD w _ x r HP.out hrk)
    have HC0 := hd hc0
    have hc1 := (HB0.out.cell (p := ⟨b, o, none⟩) hbl).trans hc0
    clear hlp hD hDA hc0
    go_enter Try.func47, Try.ntmps47
    go_wp2_with fail
    rw [← HW.out]
    go_region
    obtain ⟨I, hI⟩ : ∃ I : Int, I = if (ks.length : Int) - 1 < x then (ks.length : Int) - 1 else x := ⟨_, rfl⟩
    rw [← hI]
    have hI1 : I ≤ x := by rw [hI]; split <;> omega
    have hI2 : I < ks.length := by rw [hI]; split <;> omega
    have hI3 := hd (show ∀ (j : Nat) (m : NT), I < (j : Int) → (j : Int) ≤ x → ks[j]? = some m → LastIs m (kidA x r j) none from fun j m h1 h2 h3 => by
      have := (List.getElem?_eq_some_iff.1 h3).1
      rw [hI] at h1; split at h1 <;> omega)
    clear hI x0 x1 x2 x3 y0 y1 k0 k1 hc1
    go_wp2
    go_loopw [6] (fun i wr => ∃ I : Int, i = .int .i64 I ∧ I ≤ x ∧ I < ks.length ∧ Hid (Below w.heap.size w wr) ∧ Hid (wr.heap[w.heap.size]? = some (.cells #[.bool lf, .slice PA ps.length pc, .slice TA tx.length tc, .slice KA ks.length kc] 26 (0, 0))) ∧ Hid (wr.heap[w.heap.size + 1]? = some (.cells #[.slice none 0 0, .int .i64 0] 29 (0, 0))) ∧
      Hid (∀ (j : Nat) (m : NT), I < (j : Int) → (j : Int) ≤ x → ks[j]? = some m → LastIs m (kidA x r j) none)) (fun i _ => (intOf i + 1).toNat)
    case atStart => exact ⟨I, rfl, hI1, hI2, hd HB0.out.drew, hd HX0.out, hd HY0.out, hI3⟩
    case round =>
      clear hI1 hI2 hI3
      obtain ⟨I, rfl, hI1, hI2, HB, HX, HY, HN⟩ := hrel
      by_cases hi : 0 ≤ I
      · obtain ⟨j, rfl⟩ : ∃ j : Nat, I = (j : Int) := ⟨I.toNat, by omega⟩
        have hj : j < ks.length := by omega
        obtain ⟨m2, b', o', lf2, PA2, np2, pc2, TA2, nt2, tc2, KA2, nk2, kc2, hm2, rfl, hbg2, hnm2, c0, c1, c2, c3⟩ := (HKS.out.below HB.out).at_ hj
        have HN2 := hd hnm2
        have HM2 := hd hm2
        have hc1 := (HB.out.cell (p := ⟨b, o, none⟩) hbl).trans HC0.out
        obtain ⟨x0, x1, x2, x3, _, _, _, _⟩ := blkCells HX.out
        obtain ⟨W1, hW1⟩ : ∃ W1, W1 = wr.alloc (.cells #[.slice none 0 0, .int .i64 0] 29) := ⟨_, rfl⟩
        have HQ1 := hd (show W1.heap[wr.heap.size]? = some (.cells #[.slice none 0 0, .int .i64 0] 29 (0, 0)) from hW1 ▸ heap_alloc_new _ _)
        have HB1 := hd (show Below wr.heap.size wr W1 from hW1 ▸ (Below.refl _ _).alloc (Nat.le_refl _) _)
        have HMK := hd (show ∀ W, Below wr.heap.size wr W → (W.cell? ⟨w.heap.size, 3, none⟩ = some (.slice (some ⟨b', o', none⟩) ks.length kc) ∧ W.cell? ⟨b', o' + j * 4, none⟩ = some (.bool lf2) ∧ W.cell? ⟨b', o' + j * 4 + 1, none⟩ = some (.slice PA2 np2 pc2) ∧ W.cell? ⟨b', o' + j * 4 + 2, none⟩ = some (.slice TA2 nt2 tc2) ∧ W.cell? ⟨b', o' + j * 4 + 3, none⟩ = some (.slice KA2 nk2 kc2)) from fun W h =>
          ⟨(h.cell (cell_in x3)).trans x3, (h.cell (cell_in c0)).trans c0, (h.cell (cell_in c1)).trans c1, (h.cell (cell_in c2)).trans c2, (h.cell (cell_in c3)).trans c3⟩)
        have hMS : sizeT m2 ≤ 1048576 := by have h1 := sizeT_kid HM2.out; have h2 := HM.out; rw [sizeT] at h2; omega
        have HS := hd HB.out.size
        have hc2 : (wr.alloc (.cells #[.slice none 0 0, .int .i64 0] 29)).cell? ⟨b, o, none⟩ = some (.int .i64 x) := (((Below.refl _ _).alloc (Nat.le_refl _) _).cell (cell_in hc1)).trans hc1
        by_cases hjx : (j : Int) = x
        · have g1 : ((j : Int) == x) = true := by simp [hjx]
          have HCH := hd (fun (W : World) (h : Below wr.heap.size wr W) => HA W _ m2 D r k (c - 1) hMS hrk (by omega) (by omega) (((HN2.out.more HS.out).later h)) (((HD.out.below HB.out).more HS.out).later h))
          have HK := hd (show kidA x r j = aheadB r by unfold kidA; rw [if_pos hjx])
          have HMS := hd hMS
          clear c0 c1 c2 c3 hnm2 hm2 hMS hjx HA HI x0 x1 x2 x3 hc1
          go_wp2_with fail
          rw [← hW1]
          have HW1 := hd hW1
          clear hW1
          have HSa := hd (HMK.out W1.drew HB1.out.drew)
          go_region_held3 (fun W => W.cell? ⟨w.heap.size, 3, none⟩ = some (.slice (some ⟨b', o', none⟩) ks.length kc) ∧ W.cell? ⟨b', o' + j * 4, none⟩ = some (.bool lf2) ∧ W.cell? ⟨b', o' + j * 4 + 1, none⟩ = some (.slice PA2 np2 pc2) ∧ W.cell? ⟨b', o' + j * 4 + 2, none⟩ = some (.slice TA2 nt2 tc2) ∧ W.cell? ⟨b', o' + j * 4 + 3, none⟩ = some (.slice KA2 nk2 kc2))
            (first
              | (with_reducible exact HS4.out)
              | (with_reducible exact HS3.out)
              | (with_reducible exact HSa.out))
            (first
              | (go_at_call 47; refine Calls.mono (HCH.out _ HB1.out.drew) ?_; intro e w3 h3; obtain ⟨r3, A3, k3, c3, o3, hP3, rfl, hb3, hq3⟩ := h3; have HB3 := hd (HB1.out.drew.trans (hb3.mono HB1.out.size)); have HS3 := hd (HMK.out _ HB3.out); have HS4 := hd (HMK.out _ (pt_kept HB3.out (.slice A3 k3 c3) (.int .i64 o3))); have HQ3 := hd (keepBlk (show W1.drew.heap[wr.heap.size]? = _ from HQ1.out) hb3); have HP3 := hd (HK.out.symm ▸ hP3); have HO3 := hd hq3; clear hP3 hb3 hq3; obtain ⟨q0, q1, q2, q3⟩ := blk2 HQ3.out))
          clear HSa HS3 HS4
          obtain ⟨W4, hW4⟩ : ∃ W4, W4 = (w3.setCell ⟨wr.heap.size, 0, none⟩ (.slice A3 k3 c3)).setCell ⟨wr.heap.size, 1, none⟩ (.int .i64 o3) := ⟨_, rfl⟩
          rw [← hW4]
          have HB4 := hd (show Below wr.heap.size wr W4 from hW4 ▸ pt_kept HB3.out _ _)
          have HQ4 := hd (show W4.heap[wr.heap.size]? = some (.cells #[.slice A3 k3 c3, .int .i64 o3] 29 (0, 0)) from hW4 ▸ blk2_both HQ3.out _ _)
          have HX4 := hd (keepBlk HX.out HB4.out)
          have HY4 := hd (keepBlk HY.out HB4.out)
          have HO4 := hd (show ∀ q, r3 = some q → k3 = q.length ∧ OwnI W4 (wr.heap.size + 1) (.slice A3 k3 c3) q.reverse ∧ o3 = offT m2 q from fun q hq => by
            obtain ⟨h1, h2, h3⟩ := HO3.out q hq
            refine ⟨h1, ?_, h3⟩
            rw [hW4]
            exact ((h2.pt (x := .slice A3 k3 c3) (y := .int .i64 o3) HQ3.out).2).weaken (by rw [HW1.out]; show _ ≤ (World.alloc _ _).heap.size; simp))
          clear hW4 q0 q1 q2 q3 HO3 HQ3 HB3
          obtain ⟨q0, q1, q2, q3⟩ := blk2 HQ4.out
          have hlx := lt_of_block HY.out
          cases r3 with
          | none =>
            have HN' := hd (show ∀ (j' : Nat) (m : NT), (j : Int) - 1 < (j' : Int) → (j' : Int) ≤ x → ks[j']? = some m → LastIs m (kidA x r j') none from fun j' m h1 h2 h3 => by
              by_cases e : j' = j
              · subst e
                rw [HM2.out] at h3
                injection h3 with h3
                rw [← h3]; exact HP3.out
              · exact HN.out j' m (by omega) h2 h3)
            clear HO4 q0 q1 q2 q3
            go_wp2
            go_roundw
            case rel => exact ⟨(j : Int) - 1, by first | rfl | go_num, by omega, by omega, hd (HB.out.trans (HB4.out.mono HS.out)), HX4, HY4, HN'⟩
            case measure => first | (simp [intOf]; done) | (simp [intOf]; omega)
          | some q =>
            obtain ⟨e1, ho, e3⟩ := HO4.out q rfl
            have hq := leafB_short HP3.out.1
            have hms := HMS.out
            have h4 := HB4.out.size
            have h5 := lt_of_block HQ4.out
            have HU := hd (under_any (wr.heap.size + 1) A3 q.reverse (j : Int) o3 k3 c3 W4 (by simp [e1]) (by omega) ho (by omega))
            have HE1 := hd e1
            have HE3 := hd e3
            clear ho e1 e3 hq hms
            go_wp2_with (go_at_call 63; refine HU.out.mono ?_; rintro e w5 ⟨A5, n5, c5, e5, rfl, ho5, hb5⟩; have HY5 := hd ((hb5.block (w.heap.size + 1) (by omega)).trans HY4.out); have HB5 := hd hb5; have HO5 := hd ho5; have HE5 := hd e5; clear hb5 ho5 e5 q0 q1 q2 q3; obtain ⟨y0, y1, k0, k1⟩ := blk2 HY5.out)
            have hY6 := blk2_both HY5.out (.slice A5 n5 c5) (.int .i64 o3)
            obtain ⟨z0, z1, _, _⟩ := blk2 hY6
            have ho6 := (HO5.out.pt (x := .slice A5 n5 c5) (y := .int .i64 o3) HY5.out).2
            clear y0 y1 k0 k1
            refine bodyPost_ret (v := .tuple #[.agg #[.slice A5 n5 c5, .int .i64 o3], .bool true]) (by simp [results, Try.results47, go_sem, z0, z1]) rfl ⟨some ((j : Int) :: q), A5, n5, c5, o3, ahead_some hI1 HM2.out HP3.out (fun j' m h1 h2 h3 => HN.out j' m (by omega) h2 h3), rfl, ?_, fun q' hq' => ?_⟩
            · have hb9 : Below w.heap.size w W4 := HB.out.trans (HB4.out.mono HS.out)
              exact ((hb9.trans (HB5.out.mono (by have := HS.out; omega))).setCell (by show _ ≤ w.heap.size + 1; omega) _).setCell (by show _ ≤ w.heap.size + 1; omega) _
            · injection hq' with hq'
              subst hq'
              refine ⟨by rw [HE5.out]; simp, ?_, ?_⟩
              · rw [List.reverse_cons]
                exact ho6.weaken (by have := HS.out; omega)
              · rw [offT_kid HM2.out]; exact HE3.out
        · have g1 : ((j : Int) == x) = false := by simp [hjx]
          have HCH := hd (fun (W : World) (h : Below wr.heap.size wr W) => HI W _ m2 hMS ((HN2.out.more HS.out).later h))
          have HK := hd (show kidA x r j = allB by unfold kidA; rw [if_neg hjx])
          have hw1 : Below wr.heap.size wr (wr.alloc (.cells #[.slice none 0 0, .int .i64 0] 29)) := (Below.refl _ _).alloc (Nat.le_refl _) _
          obtain ⟨x3', d0, d1, d2, d3⟩ := HMK.out _ hw1
          have HMS := hd hMS
          clear c0 c1 c2 c3 hnm2 hm2 hMS hjx HA HI x0 x1 x2 x3 hc1 hw1
          have HW1 := hd hW1
          clear hW1
          go_upto_region 11 with (go_at_call 44; rw [← HW1.out]; refine Calls.mono (HCH.out _ HB1.out) ?_; intro e w3 h3; obtain ⟨r3, A3, k3, c3, o3, hP3, rfl, hb3, hq3⟩ := h3; have HB3 := hd (HB1.out.trans (hb3.mono HB1.out.size)); have HQ3 := hd (keepBlk HQ1.out hb3); have HP3 := hd (HK.out.symm ▸ hP3); have HO3 := hd hq3; clear hP3 hb3 hq3 x3' d0 d1 d2 d3; obtain ⟨q0, q1, q2, q3⟩ := blk2 HQ3.out)
          obtain ⟨W4, hW4⟩ : ∃ W4, W4 = (w3.setCell ⟨wr.heap.size, 0, none⟩ (.slice A3 k3 c3)).setCell ⟨wr.heap.size, 1, none⟩ (.int .i64 o3) := ⟨_, rfl⟩
          rw [← hW4]
          have HB4 := hd (show Below wr.heap.size wr W4 from hW4 ▸ pt_kept HB3.out _ _)
          have HQ4 := hd (show W4.heap[wr.heap.size]? = some (.cells #[.slice A3 k3 c3, .int .i64 o3] 29 (0, 0)) from hW4 ▸ blk2_both HQ3.out _ _)
          have HX4 := hd (keepBlk HX.out HB4.out)
          have HY4 := hd (keepBlk HY.out HB4.out)
          have HO4 := hd (show ∀ q, r3 = some q → k3 = q.length ∧ OwnI W4 (wr.heap.size + 1) (.slice A3 k3 c3) q.reverse ∧ o3 = offT m2 q from fun q hq => by
            obtain ⟨h1, h2, h3⟩ := HO3.out q hq
            refine ⟨h1, ?_, h3⟩
            rw [hW4]
            exact ((h2.pt (x := .slice A3 k3 c3) (y := .int .i64 o3) HQ3.out).2).weaken (by rw [HW1.out]; show _ ≤ (World.alloc _ _).heap.size; simp))
          clear hW4 q0 q1 q2 q3 HO3 HQ3 HB3
          obtain ⟨q0, q1, q2, q3⟩ := blk2 HQ4.out
          have hlx := lt_of_block HY.out
          cases r3 with
          | none =>
            have HN' := hd (show ∀ (j' : Nat) (m : NT), (j : Int) - 1 < (j' : Int) → (j' : Int) ≤ x → ks[j']? = some m → LastIs m (kidA x r j') none from fun j' m h1 h2 h3 => by
              by_cases e : j' = j
              · subst e
                rw [HM2.out] at h3
                injection h3 with h3
                rw [← h3]; exact HP3.out
              · exact HN.out j' m (by omega) h2 h3)
            clear HO4 q0 q1 q2 q3
            go_wp2
            go_roundw
            case rel => exact ⟨(j : Int) - 1, by first | rfl | go_num, by omega, by omega, hd (HB.out.trans (HB4.out.mono HS.out)), HX4, HY4, HN'⟩
            case measure => first | (simp [intOf]; done) | (simp [intOf]; omega)
          | some q =>
            obtain ⟨e1, ho, e3⟩ := HO4.out q rfl
            have hq := leafB_short HP3.out.1
            have hms := HMS.out
            have h4 := HB4.out.size
            have h5 := lt_of_block HQ4.out
            have HU := hd (under_any (wr.heap.size + 1) A3 q.reverse (j : Int) o3 k3 c3 W4 (by simp [e1]) (by omega) ho (by omega))
            have HE1 := hd e1
            have HE3 := hd e3
            clear ho e1 e3 hq hms
            go_wp2_with (go_at_call 63; refine HU.out.mono ?_; rintro e w5 ⟨A5, n5, c5, e5, rfl, ho5, hb5⟩; have HY5 := hd ((hb5.block (w.heap.size + 1) (by omega)).trans HY4.out); have HB5 := hd hb5; have HO5 := hd ho5; have HE5 := hd e5; clear hb5 ho5 e5 q0 q1 q2 q3; obtain ⟨y0, y1, k0, k1⟩ := blk2 HY5.out)
            have hY6 := blk2_both HY5.out (.slice A5 n5 c5) (.int .i64 o3)
            obtain ⟨z0, z1, _, _⟩ := blk2 hY6
            have ho6 := (HO5.out.pt (x := .slice A5 n5 c5) (y := .int .i64 o3) HY5.out).2
            clear y0 y1 k0 k1
            refine bodyPost_ret (v := .tuple #[.agg #[.slice A5 n5 c5, .int .i64 o3], .bool true]) (by simp [results, Try.results47, go_sem, z0, z1]) rfl ⟨some ((j : Int) :: q), A5, n5, c5, o3, ahead_some hI1 HM2.out HP3.out (fun j' m h1 h2 h3 => HN.out j' m (by omega) h2 h3), rfl, ?_, fun q' hq' => ?_⟩
            · have hb9 : Below w.heap.size w W4 := HB.out.trans (HB4.out.mono HS.out)
              exact ((hb9.trans (HB5.out.mono (by have := HS.out; omega))).setCell (by show _ ≤ w.heap.size + 1; omega) _).setCell (by show _ ≤ w.heap.size + 1; omega) _
            · injection hq' with hq'
              subst hq'
              refine ⟨by rw [HE5.out]; simp, ?_, ?_⟩
              · rw [List.reverse_cons]
                exact ho6.weaken (by have := HS.out; omega)
              · rw [offT_kid HM2.out]; exact HE3.out
      · have HF := hd (ahead_none (n := .mk lf ps tx ks) (x := x) (r := r) fun j m h1 h2 => HN.out j m (by omega) h1 h2)
        obtain ⟨y0, y1, k0, k1⟩ := blk2 HY.out
        clear HN
        go_wp2
        have hY6 := blk2_both HY.out (.slice none 0 0) (.int .i64 0)
        obtain ⟨z0, z1, _, _⟩ := blk2 hY6
        clear y0 y1 k0 k1
        refine bodyPost_ret (v := .tuple #[.agg #[.slice none 0 0, .int .i64 0], .bool false]) (by simp [results, Try.results47, go_sem, z0, z1]) rfl ⟨none, none, 0, 0, 0, HF.out, rfl, (HB.out.setCell (by show _ ≤ w.heap.size + 1; omega) _).setCell (by show _ ≤ w.heap.size + 1; omega) _, fun q h => by cases h⟩

end Go.Proofs.Ytjolmnghoigggaa
