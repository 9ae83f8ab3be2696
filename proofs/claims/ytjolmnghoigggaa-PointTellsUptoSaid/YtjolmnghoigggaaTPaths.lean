/- tree.Paths, tree.Leaves, the document's, and the law TreePaths. -/
import Derived.Test.YtjolmnghoigggaaTPths
namespace Go.Proofs.Ytjolmnghoigggaa
open Go.RowKit
open Go.WideShapes (add_plain)

set_option maxRecDepth 100000 in
set_option maxHeartbeats 16000000 in
theorem pwalk_any {B gq go gh gw : Nat} {fid : FuncId} {lv : Bool} (bx : Bx B gq go gh gw) (K : Ask fid lv) :
    ∀ (d : Nat) (w : World) (v : Value) (n : NT) (vo vh : Value) (L : List (List Int)) (h : List Int), NodeAt d w B v n → St B gq go gh gw fid w vo vh L h → B ≤ w.heap.size → L.length + sizeT n ≤ 1900000 → h.length + sizeT n ≤ 1900000 →
      Calls Try.prog 65 #[v, .pointer (some ⟨gq, 0, none⟩), .pointer (some ⟨go, 0, none⟩), .pointer (some ⟨gh, 0, none⟩), .pointer (some ⟨gw, 0, none⟩)] w (Walked B gq go gh gw fid (L ++ pathsK lv n.ks 0 h) h w) := by
  intro d0
  induction d0 with
  | zero => intro w v n vo vh L h hn; exact hn.elim
  | succ d ih =>
    intro w v n vo vh L h hn hst hB hL hH
    obtain ⟨d', lf, ps, tx, ks, PA, pc, TA, tc, KA, kc, hd', rfl, rfl, hp, ht, hf, hks⟩ := hn.open_
    obtain rfl : d = d' := by omega
    have hsL : L.length + 1 + sizeK ks ≤ 1900000 := by rw [sizeT] at hL; omega
    have hsH : h.length + 1 + sizeK ks ≤ 1900000 := by rw [sizeT] at hH; omega
    have hl3 := hf.2.2.2.1
    have HKS := hd hks
    have HIH := hd ih
    have HE1 := K.enters
    have HE2 := enters_of Try.func65 (by kernel_rfl) rfl
    have HS0 := hd (hst.below (alloc_below w (.cells #[.bool lf, .slice PA ps.length pc, .slice TA tx.length tc, .slice KA ks.length kc] 26)))
    have HB0 := hd (show Below B w _ from (alloc_below w (.cells #[.bool lf, .slice PA ps.length pc, .slice TA tx.length tc, .slice KA ks.length kc] 26)).mono hB)
    clear hn hp ht hf hks hd' ih hst hL hH
    go_enter Try.func65, Try.ntmps65
    go_wp2_with fail
    go_loopw [11] (fun i wr => ∃ (k : Nat) (vo vh : Value), k ≤ ks.length ∧ i = .int .i64 k ∧ Hid (St B gq go gh gw fid wr vo vh (L ++ pathsK lv (ks.take k) 0 h) h) ∧ Hid (Below B w wr)) (fun i _ => ks.length - (intOf i).toNat)
    case atStart => exact ⟨0, vo, vh, Nat.zero_le _, rfl, by simpa [pathsK] using HS0, HB0⟩
    case round =>
      obtain ⟨k, vo, vh, hk, rfl, HSR, HBR⟩ := hrel
      clear HS0 HB0
      have hsz := HBR.out.size
      by_cases hlt : k < ks.length
      · obtain ⟨m, b, o, lf1, PA1, np1, pc1, TA1, nt1, tc1, KA1, nk1, kc1, hm, rfl, hbg, hnm, x0, x1, x2, x3⟩ := (HKS.out.below HBR.out).at_ hlt
        have hsm := sizeT_kid hm
        have htk : sizeK (ks.take k) + sizeT m ≤ sizeK ks := by
          have e1 : sizeK ks = sizeK (ks.take k) + sizeK (ks.drop k) := by rw [← sizeK_append, List.take_append_drop]
          rw [drop_one hm] at e1; simp only [sizeK] at e1; omega
        have hpl := pathsK_len lv (ks.take k) 0 h
        obtain ⟨Ah, ch, hvh, hch, _⟩ := HSR.out.own.open_at h.length rfl
        obtain ⟨lh0, hlh⟩ : ∃ lh0, h.length = lh0 := ⟨_, rfl⟩
        rw [hlh] at hvh hch
        subst hvh
        have HLH := hd hlh
        have HVH := hd (fun j e => (HSR.out.own.lt (j := j) e).2)
        obtain ⟨vs, hv1, hv2, hv3⟩ := HSR.out.row
        obtain ⟨Ao, co, hvo, _, _, _⟩ := own_free hv2
        obtain ⟨nl, hnl⟩ : ∃ nl, nl = (L ++ pathsK lv (ks.take k) 0 h).length := ⟨_, rfl⟩
        rw [← hnl] at hv1 hv2 hvo
        subst hvo
        have hnl2 : nl ≤ L.length + sizeK (ks.take k) := by rw [hnl, List.length_append]; omega
        have HVO := hd (fun j e => (hv2.lt j e).2)
        obtain ⟨W0, hW0⟩ : ∃ W0, W0 = wr.alloc (.cells #[.bool lf1, .slice PA1 np1 pc1, .slice TA1 nt1 tc1, .slice KA1 nk1 kc1] 26) := ⟨_, rfl⟩
        have hb0 : Below wr.heap.size wr W0 := hW0 ▸ alloc_below wr _
        have hs0 : W0.heap.size = wr.heap.size + 1 := by rw [hW0]; simp
        have HBX := hd (show W0.heap[wr.heap.size]? = some (.cells #[.bool lf1, .slice PA1 np1 pc1, .slice TA1 nt1 tc1, .slice KA1 nk1 kc1] 26 (0, 0)) from hW0 ▸ heap_alloc_new wr _)
        have HS0 := hd (HSR.out.below hb0)
        have HBB0 := hd (show Below B w W0 from HBR.out.trans (hb0.mono (by omega)))
        have HNM := hd (show NodeAt d w B (.agg #[.bool lf1, .slice PA1 np1 pc1, .slice TA1 nt1 tc1, .slice KA1 nk1 kc1]) m from by
          obtain ⟨b', o', u', e', _, hn', c0, c1, c2, c3, eu, h0, h1, h2, h3⟩ := HKS.out k m hm
          injection e' with e'
          injection e' with e1 e2
          subst e1 e2
          have z0 := x0.symm.trans (Eq.trans (HBR.out.cell (by exact hbg)) h0)
          have z1 := x1.symm.trans (Eq.trans (HBR.out.cell (by exact hbg)) h1)
          have z2 := x2.symm.trans (Eq.trans (HBR.out.cell (by exact hbg)) h2)
          have z3 := x3.symm.trans (Eq.trans (HBR.out.cell (by exact hbg)) h3)
          injection z0 with z0
          injection z1 with z1
          injection z2 with z2
          injection z3 with z3
          rw [z0, z1, z2, z3, ← eu]; exact hn')
        have HC := hd (K.does d W0 _ m ((hnm.below (hb0.mono (by omega))).more (by omega)))
        have HS0Z := hd hs0
        have hq0 := HS0.out.asked
        obtain ⟨y0, y1, y2, y3, -⟩ := blkCells HBX.out
        have lgo := lt_of_block HSR.out.out
        have lgh := lt_of_block HSR.out.here
        have hge : go ≠ gh := bx.oh
        have hstep := pathsK_step lv hm h
        rw [pathsN_eta] at hstep
        obtain ⟨ab, hab⟩ : ∃ ab, (m.lf || !lv) = ab := ⟨_, rfl⟩
        rw [hab] at HC hstep
        have hlh9 : lh0 + 1 + sizeK ks ≤ 1900000 := by omega
        clear hb0 hm hnm hs0 hlh hab
        cases ab
        · obtain ⟨L1, hL1⟩ : ∃ L1, L1 = L ++ pathsK lv (ks.take k) 0 h := ⟨_, rfl⟩
          have HLE := hd (show L1 ++ pathsK lv m.ks 0 (h ++ [(k : Int)]) = L ++ pathsK lv (ks.take (k + 1)) 0 h by rw [hstep, hL1, List.append_assoc]; rfl)
          have hl1 : L1.length = nl := by rw [hL1, hnl]
          rw [← hL1] at HS0
          clear hstep hL1 hnl hv1 hv2 hv3 HSR
          subst hW0
          go_upto_region 6 with (first
            | (refine HC.out.mono ?_; rintro e ws ⟨rfl, hb1⟩; have HST := hd (HS0.out.below hb1); have HBB := hd (HBB0.out.trans (hb1.mono (by have := HS0Z.out; omega))); have HKB := hd (keepBlk HBX.out hb1); have hz1 := hb1.size; rw [HS0Z.out] at hz1; clear hb1 hq0 y0 y1 y2 y3))
          obtain ⟨k0, k1, k2, k3, -⟩ := blkCells HKB.out
          obtain ⟨g0, g1⟩ := one_cell HST.out.here
          have hw0 := HST.out.walk
          have lh := lt_of_block HST.out.here
          have HOW := hd (show ws.ownsRow B 3 1 (.slice Ah lh0 ch) lh0 (h.map (Value.int .i64)) by have := HST.out.own.own; rwa [HLH.out] at this)
          have hbs := HBB.out.size
          go_upto_region 7 with (first
            | (at_builtin; refine wpList_append_GX intG _ rfl (.tmp 31) (.tmp 33) rfl B (.slice Ah lh0 ch) lh0 (h.map (Value.int .i64)) rfl (HOW.out.alloc _) (some ⟨ws.heap.size, 0, none⟩) 1 1 (ws.heap.size + 1) [.int .i64 k] rfl rfl (VL_new ws _ [.int .i64 k]) (by simp [Value.oneCell']) (by unfold maxLen; omega) (by omega) (by simp; omega) ?_; intro A6 c6 w6 hown6 hgrow6 hat6; have ho6 := (hgrow6.block gh (by simp; omega) (fun e => HST.out.aph.2.2.1 e.symm)).trans ((Below.heap_alloc _ _ _ lh).trans HST.out.here); obtain ⟨e0, e1⟩ := one_cell ho6; have HN6 := hd hown6; have HG6 := hd hgrow6; have HT6 := hd hat6; clear hown6 hgrow6 hat6 ho6))
          generalize hw7 : World.setCell w6 _ _ = w7
          have hs7 := St.more bx HST.out (alloc_below ws _) HLH.out.symm HN6.out HG6.out HT6.out
          rw [hw7] at hs7
          have hb7 : Below B w w7 := hw7 ▸ (((HBB.out.alloc (by omega) _).grown HG6.out (by simp; omega) (fun j hj => (HST.out.own.lt hj).1)).setCell bx.h _)
          have hk7 : w7.heap[wr.heap.size]? = some (.cells #[.bool lf1, .slice PA1 np1 pc1, .slice TA1 nt1 tc1, .slice KA1 nk1 kc1] 26 (0, 0)) := by
            rw [← hw7, Below.heap_setCell _ _ _ _ (by show wr.heap.size ≠ gh; omega)]
            exact (HG6.out.block _ (by simp; omega) (fun e => by have := HVH.out _ e.symm; omega)).trans ((Below.heap_alloc _ _ _ (by omega)).trans HKB.out)
          clear k0 k1 k2 k3 g0 g1 hw0 e0 e1 hw7
          obtain ⟨k0, k1, k2, k3, -⟩ := blkCells hk7
          have hw0 := hs7.walk
          have HCH := hd (HIH.out w7 _ m _ _ L1 (h ++ [(k : Int)]) (HNM.out.below hb7) hs7 (by have := hb7.size; omega) (by omega) (by rw [List.length_append, HLH.out]; simp; omega))
          have HB7 := hd hb7
          have hrun := takeI_run (.none) 0 0 0 (Nat.le_refl _)
          clear hs7 hb7 hk7 hrun
          go_upto_region 8 with (first
            | (go_at_call 65; refine HCH.out.mono ?_; rintro e w8 ⟨rfl, ⟨vo8, vh8, hs8⟩, hb8⟩; obtain ⟨A8, c8, rfl, hc8, _⟩ := hs8.own.open_at (lh0 + 1) (by rw [List.length_append, HLH.out]; rfl); obtain ⟨g0, g1⟩ := one_cell hs8.here; have HS8 := hd hs8; have HB8 := hd (HB7.out.trans (hb8.mono (Nat.le_refl _))); clear hs8 hb8 k0 k1 k2 k3 hw0))
          have hrun := takeI_run A8 (lh0 + 1) c8 lh0 (by omega)
          have hwk : IntKind.i64.wrap (lh0 : Int) = (lh0 : Int) := IntWalk.i64_in _ (by omega)
          have hk0 : (0 : Int) ≤ (lh0 : Int) := by omega
          have hkc : (lh0 : Int) ≤ (c8 : Int) := by omega
          go_wp2_with fail
          go_roundw
          case rel =>
            have hl8 := HS8.out.less bx HLH.out
            rw [HLE.out] at hl8
            exact ⟨k + 1, vo8, _, by omega, by go_num, hd hl8, hd (HB8.out.setCell bx.h _)⟩
          case measure => simp [intOf]; omega
        · obtain ⟨L0, hL0⟩ : ∃ L0, L0 = L ++ pathsK lv (ks.take k) 0 h := ⟨_, rfl⟩
          obtain ⟨L1, hL1⟩ : ∃ L1, L1 = L0 ++ [h ++ [(k : Int)]] := ⟨_, rfl⟩
          have HLE := hd (show L1 ++ pathsK lv m.ks 0 (h ++ [(k : Int)]) = L ++ pathsK lv (ks.take (k + 1)) 0 h by rw [hstep, hL1, hL0, List.append_assoc, List.append_assoc]; rfl)
          rw [← hL0] at HS0 hnl
          have hl1 : L1.length = nl + 1 := by rw [hL1, hnl, List.length_append]; rfl
          have HLL := hd hL1
          have HNL := hd hnl
          have HV1 := hd (hv1.trans hnl)
          have HV2 := hd (show W0.ownsRow B 27 1 (.slice Ao nl co) nl vs from ownsRow_below hv2 (hW0 ▸ alloc_below wr _))
          have HV3 := hd (show ∀ k u, vs[k]? = some u → OwnI W0 B u (lAt L0 k) ∧ ∀ j, u.ownBlock = some j → (Value.slice Ah lh0 ch).ownBlock ≠ some j from fun q u hu => ⟨((hv3 q u hu).1.below (hW0 ▸ alloc_below wr _)) |> (by rw [hL0]; exact ·), (hv3 q u hu).2⟩)
          clear hstep hL1 hL0 hnl hv1 hv2 hv3 HSR
          subst hW0
          go_upto_region 5 with (first
            | (refine HC.out.mono ?_; rintro e w0 ⟨rfl, hb1⟩; have HSz := hd (HS0.out.below hb1); have HBBz := hd (HBB0.out.trans (hb1.mono (by have := HS0Z.out; omega))); have HKBz := hd (keepBlk HBX.out hb1); have HWz2 := hd (ownsRow_below HV2.out hb1); have HWz3 := hd (fun q u hu => (⟨((HV3.out q u hu).1).below hb1, (HV3.out q u hu).2⟩ : OwnI w0 B u (lAt L0 q) ∧ ∀ j, u.ownBlock = some j → (Value.slice Ah lh0 ch).ownBlock ≠ some j)); have hz1 := hb1.size; rw [HS0Z.out] at hz1; clear hb1 hq0 y0 y1 y2 y3))
          go_cut [6] (fun s6 wx => s6 = .int .i64 k ∧ ∃ (A6 : Option Addr) (c6 : Nat), Hid (St B gq go gh gw fid wx (.slice A6 (nl + 1) c6) (.slice Ah lh0 ch) L1 h) ∧ Hid (Below B w wx) ∧ Hid (wx.heap[wr.heap.size]? = some (.cells #[.bool lf1, .slice PA1 np1 pc1, .slice TA1 nt1 tc1, .slice KA1 nk1 kc1] 26 (0, 0))) ∧ wr.heap.size + 1 ≤ wx.heap.size)
          case first =>
            refine Z_start (S := fun W => W.cell? ⟨gh, 0, none⟩ = some (.slice Ah lh0 ch) ∧ W.cell? ⟨go, 0, none⟩ = some (.slice Ao nl co)) (z := 12) (by kernel_rfl) ?_
            obtain ⟨w1, hw1⟩ : ∃ w1, w1 = w0.drew := ⟨_, rfl⟩
            rw [← hw1]
            have hbd : Below w0.heap.size w0 w1 := hw1 ▸ (Below.refl _ _).drew
            have hsd : w1.heap.size = w0.heap.size := by rw [hw1]; rfl
            have HS1 := hd (HSz.out.below hbd)
            have HBB1 := hd (HBBz.out.trans (hbd.mono (by have := HBBz.out.size; omega)))
            have HKB1 := hd (keepBlk HKBz.out hbd)
            have HW2 := hd (ownsRow_below HWz2.out hbd)
            have HW3 := hd (fun q u hu => (⟨((HWz3.out q u hu).1).below hbd, (HWz3.out q u hu).2⟩ : OwnI w1 B u (lAt L0 q) ∧ ∀ j, u.ownBlock = some j → (Value.slice Ah lh0 ch).ownBlock ≠ some j))
            have hz1' : wr.heap.size + 1 ≤ w1.heap.size := by omega
            clear hw1 hbd HSz HBBz HKBz HWz2 HWz3 hsd hz1
            have HSS := hd (show w1.cell? ⟨gh, 0, none⟩ = some (.slice Ah lh0 ch) ∧ w1.cell? ⟨go, 0, none⟩ = some (.slice Ao nl co) from ⟨(one_cell HS1.out.here).1, (one_cell HS1.out.out).1⟩)
            have lo1 := lt_of_block HS1.out.out
            have lh1 := lt_of_block HS1.out.here
            have hbz := HBB1.out.size
            have HIL := hd (own_olds HS1.out.own HLH.out)
            have hi0 : (0 : Int) ≤ (lh0 : Int) := by omega
            have hi1 : (lh0 : Int) ≤ (ch : Int) := by omega
            refine Z_take (i := 0) (n := 12) (.slice Ao nl co) rfl (by kernel_rfl) (by kernel_rfl) (by kernel_rfl) (by kernel_rfl) (fun _ _ _ h => h) (by rfl) (fun W hW => ?_) HSS.out ?_
            · obtain ⟨hW1, hW2⟩ := hW
              go_simp
            simp only [Act.put, List.setIfInBounds_toArray]
            refine Z_take (i := 1) (n := 11) (.slice Ah lh0 ch) rfl (by kernel_rfl) (by kernel_rfl) (by kernel_rfl) (by kernel_rfl) (fun _ _ _ h => h) (by rfl) (fun W hW => ?_) HSS.out ?_
            · obtain ⟨hW1, hW2⟩ := hW
              go_simp
            simp only [Act.put]
            refine Z_take (i := 2) (n := 10) (.slice Ah lh0 ch) rfl (by kernel_rfl) (by kernel_rfl) (by kernel_rfl) (by kernel_rfl) (fun _ _ _ h => h) (by rfl) (fun W hW => ?_) HSS.out ?_
            · obtain ⟨hW1, hW2⟩ := hW
              go_simp
            simp only [Act.put]
            refine Z_take (i := 3) (n := 9) (.int .i64 lh0) rfl (by kernel_rfl) (by kernel_rfl) (by kernel_rfl) (by kernel_rfl) (fun _ _ _ h => h) (by rfl) (fun W hW => ?_) HSS.out ?_
            · obtain ⟨hW1, hW2⟩ := hW
              go_simp
            simp only [Act.put]
            refine Z_take (i := 4) (n := 8) (.slice Ah lh0 ch) rfl (by kernel_rfl) (by kernel_rfl) (by kernel_rfl) (by kernel_rfl) (fun _ _ _ h => h) (by rfl) (fun W hW => ?_) HSS.out ?_
            · obtain ⟨hW1, hW2⟩ := hW
              go_simp
            simp only [Act.put]
            refine Z_take (i := 5) (n := 7) (.int .i64 lh0) rfl (by kernel_rfl) (by kernel_rfl) (by kernel_rfl) (by kernel_rfl) (fun _ _ _ h => h) (by rfl) (fun W hW => ?_) HSS.out ?_
            · obtain ⟨hW1, hW2⟩ := hW
              go_simp
            simp only [Act.put]
            refine Z_take (i := 6) (n := 6) (.slice Ah lh0 lh0) rfl (by kernel_rfl) (by kernel_rfl) (by kernel_rfl) (by kernel_rfl) (fun _ _ _ h => h) (by rfl) (fun W hW => ?_) HSS.out ?_
            · obtain ⟨hW1, hW2⟩ := hW
              go_simp
            simp only [Act.put]
            refine Z_take (i := 7) (n := 5) (.int .i64 k) rfl (by kernel_rfl) (by kernel_rfl) (by kernel_rfl) (by kernel_rfl) (fun _ _ _ h => h) (by rfl) (fun W hW => ?_) HSS.out ?_
            · obtain ⟨hW1, hW2⟩ := hW
              go_simp
            simp only [Act.put]
            refine Z_one (i := 8) (n := 4) (by kernel_rfl) rfl (fun K hK => ?_)
            rw [if_pos (by rfl)]
            go_simp
            refine hK _ _ (fun _ => ⟨(one_cell (keepBlk HS1.out.here (alloc_below w1 _))).1, (one_cell (keepBlk HS1.out.out (alloc_below w1 _))).1⟩) ?_
            clear hK K
            refine Z_one (i := 9) (n := 3) (by kernel_rfl) rfl (fun K hK => ?_)
            refine step_append_grows intG _ rfl (.tmp 25) (.tmp 27) rfl Ah lh0 lh0 (h.map (Value.int .i64)) rfl (HIL.out.1 w1 (Below.refl _ _)) HIL.out.2.1 (HIL.out.2.2 _ (alloc_below w1 _)) ⟨w1.heap.size, 0, none⟩ 1 1 [.int .i64 k] rfl rfl (new_cells w1 _ _) (by simp [Value.oneCell']) (by omega) (by unfold maxLen; omega) (by omega) ?_
            intro v5 w2 hown2 hgrow2
            obtain ⟨A5, c5, rfl, _, _, _⟩ := own_free hown2
            have hb2 : Below w1.heap.size w1 w2 := (alloc_below w1 _).trans ((grown_none hgrow2).mono (by simp))
            have HB2 := hd hb2
            have HO5 := hd (show OwnI w2 B (.slice A5 (lh0 + 1) c5) (h ++ [(k : Int)]) from (OwnI.of_own (n := lh0 + 1) (by rw [List.map_append]; exact hown2) (by rw [List.length_append, HLH.out]; rfl)).weaken (by simp; omega))
            have HF5 := hd (fun j e => (show w1.heap.size ≤ j from by have := (hown2.lt j e).1; simp at this; omega))
            have hz2 := hb2.size
            refine hK _ _ (fun _ => ⟨(one_cell (keepBlk HS1.out.here hb2)).1, (one_cell (keepBlk HS1.out.out hb2)).1⟩) ?_
            clear hK K hown2 hgrow2 hb2
            refine Z_one (i := 10) (n := 2) (by kernel_rfl) rfl (fun K hK => ?_)
            rw [if_pos (by rfl)]
            go_simp
            refine hK _ _ (fun _ => ⟨(one_cell (keepBlk (keepBlk HS1.out.here HB2.out) (alloc_below w2 _))).1, (one_cell (keepBlk (keepBlk HS1.out.out HB2.out) (alloc_below w2 _))).1⟩) ?_
            clear hK K
            refine Z_one (i := 11) (n := 1) (by kernel_rfl) rfl (fun K hK => ?_)
            refine step_append_GX rowG _ rfl (.tmp 19) (.tmp 29) rfl B (.slice Ao nl co) nl vs rfl (((ownsRow_below HW2.out HB2.out)).alloc _) (some ⟨w2.heap.size, 0, none⟩) 1 1 (w2.heap.size + 1) [.slice A5 (lh0 + 1) c5] rfl rfl (VL_new w2 _ [.slice A5 (lh0 + 1) c5]) (by simp [Value.oneCell']) (by unfold maxLen; omega) (by omega) (by simp; omega) ?_
            intro A6 c6 w3 hown3 hgrow3 hat3
            have ho3 := (hgrow3.block go (by simp; omega) (fun e => HS1.out.apo.2.1 e.symm)).trans ((Below.heap_alloc _ _ _ (by omega)).trans (keepBlk HS1.out.out HB2.out))
            have hh3 := (hgrow3.block gh (by simp; omega) (fun e => HS1.out.apo.2.2.1 e.symm)).trans ((Below.heap_alloc _ _ _ (by omega)).trans (keepBlk HS1.out.here HB2.out))
            obtain ⟨e0, e1⟩ := one_cell ho3
            refine hK _ _ (fun _ => ⟨(one_cell hh3).1, e0⟩) ?_
            have HN3 := hd hown3
            have HG3 := hd hgrow3
            have HA3 := hd hat3
            clear hK K hown3 hgrow3 hat3 ho3 hh3
            refine Z_one (i := 12) (n := 0) (by kernel_rfl) rfl (fun K hK => ?_)
            rw [if_pos (by rfl)]
            go_simp
            refine hK _ _ (fun e => absurd rfl e) (Z_done (by kernel_rfl) ?_)
            clear hK K
            generalize hws : World.setCell w3 _ _ = ws
            have hst := St.push bx HS1.out (HB2.out.trans ((alloc_below w2 (.cells #[.slice A5 (lh0 + 1) c5] 27)).mono HB2.out.size)) HNL.out HV1.out HW2.out HW3.out (HO5.out.below (alloc_below w2 _)) HF5.out HN3.out HG3.out HA3.out
            rw [hws, ← HLL.out] at hst
            have hbb : Below B w ws := hws ▸ (((HBB1.out.trans (HB2.out.mono (by omega))).alloc (by omega) _).grown HG3.out (by simp; omega) (fun j hj => (HW2.out.lt j hj).1)).setCell bx.o _
            have hkb : ws.heap[wr.heap.size]? = some (.cells #[.bool lf1, .slice PA1 np1 pc1, .slice TA1 nt1 tc1, .slice KA1 nk1 kc1] 26 (0, 0)) := by
              rw [← hws, Below.heap_setCell _ _ _ _ (by show wr.heap.size ≠ go; omega)]
              exact (HG3.out.block _ (by simp; omega) (fun e => by have := HVO.out _ e.symm; omega)).trans ((Below.heap_alloc _ _ _ (by omega)).trans (keepBlk HKB1.out HB2.out))
            have HST := hd hst
            have HBB := hd hbb
            have HKB := hd hkb
            have hzw : wr.heap.size + 1 ≤ ws.heap.size := by
              have h1 := HG3.out.size
              have h2 : ws.heap.size = w3.heap.size := by rw [← hws]; simp
              simp at h1; omega
            clear hst hbb hkb hws e0 e1
            go_wp2_with fail
            go_meet
            exact ⟨rfl, A6, c6, HST, HBB, HKB, hzw⟩
          case rest =>
            obtain ⟨rfl, A9, c9, HST, HBB, HKB, hzw⟩ := hcut
            obtain ⟨k0, k1, k2, k3, -⟩ := blkCells HKB.out
            obtain ⟨g0, g1⟩ := one_cell HST.out.here
            have hw0 := HST.out.walk
            have lh := lt_of_block HST.out.here
            have HOW := hd (show wc.ownsRow B 3 1 (.slice Ah lh0 ch) lh0 (h.map (Value.int .i64)) by have := HST.out.own.own; rwa [HLH.out] at this)
            have hbs := HBB.out.size
            go_upto_region 7 with (first
              | (at_builtin; refine wpList_append_GX intG _ rfl (.tmp 31) (.tmp 33) rfl B (.slice Ah lh0 ch) lh0 (h.map (Value.int .i64)) rfl (HOW.out.alloc _) (some ⟨wc.heap.size, 0, none⟩) 1 1 (wc.heap.size + 1) [.int .i64 k] rfl rfl (VL_new wc _ [.int .i64 k]) (by simp [Value.oneCell']) (by unfold maxLen; omega) (by omega) (by simp; omega) ?_; intro A6 c6 w6 hown6 hgrow6 hat6; have ho6 := (hgrow6.block gh (by simp; omega) (fun e => HST.out.aph.2.2.1 e.symm)).trans ((Below.heap_alloc _ _ _ lh).trans HST.out.here); obtain ⟨e0, e1⟩ := one_cell ho6; have HN6 := hd hown6; have HG6 := hd hgrow6; have HT6 := hd hat6; clear hown6 hgrow6 hat6 ho6))
            generalize hw7 : World.setCell w6 _ _ = w7
            have hs7 := St.more bx HST.out (alloc_below wc _) HLH.out.symm HN6.out HG6.out HT6.out
            rw [hw7] at hs7
            have hb7 : Below B w w7 := hw7 ▸ (((HBB.out.alloc (by omega) _).grown HG6.out (by simp; omega) (fun j hj => (HST.out.own.lt hj).1)).setCell bx.h _)
            have hk7 : w7.heap[wr.heap.size]? = some (.cells #[.bool lf1, .slice PA1 np1 pc1, .slice TA1 nt1 tc1, .slice KA1 nk1 kc1] 26 (0, 0)) := by
              rw [← hw7, Below.heap_setCell _ _ _ _ (by show wr.heap.size ≠ gh; omega)]
              exact (HG6.out.block _ (by simp; omega) (fun e => by have := HVH.out _ e.symm; omega)).trans ((Below.heap_alloc _ _ _ (by omega)).trans HKB.out)
            clear k0 k1 k2 k3 g0 g1 hw0 e0 e1 hw7
            obtain ⟨k0, k1, k2, k3, -⟩ := blkCells hk7
            have hw0 := hs7.walk
            have HCH := hd (HIH.out w7 _ m _ _ L1 (h ++ [(k : Int)]) (HNM.out.below hb7) hs7 (by have := hb7.size; omega) (by omega) (by rw [List.length_append, HLH.out]; simp; omega))
            have HB7 := hd hb7
            have hrun := takeI_run (.none) 0 0 0 (Nat.le_refl _)
            clear hs7 hb7 hk7 hrun
            go_upto_region 8 with (first
              | (go_at_call 65; refine HCH.out.mono ?_; rintro e w8 ⟨rfl, ⟨vo8, vh8, hs8⟩, hb8⟩; obtain ⟨A8, c8, rfl, hc8, _⟩ := hs8.own.open_at (lh0 + 1) (by rw [List.length_append, HLH.out]; rfl); obtain ⟨g0, g1⟩ := one_cell hs8.here; have HS8 := hd hs8; have HB8 := hd (HB7.out.trans (hb8.mono (Nat.le_refl _))); clear hs8 hb8 k0 k1 k2 k3 hw0))
            have hrun := takeI_run A8 (lh0 + 1) c8 lh0 (by omega)
            have hwk : IntKind.i64.wrap (lh0 : Int) = (lh0 : Int) := IntWalk.i64_in _ (by omega)
            have hk0 : (0 : Int) ≤ (lh0 : Int) := by omega
            have hkc : (lh0 : Int) ≤ (c8 : Int) := by omega
            go_wp2_with fail
            go_roundw
            case rel =>
              have hl8 := HS8.out.less bx HLH.out
              rw [HLE.out] at hl8
              exact ⟨k + 1, vo8, _, by omega, by go_num, hd hl8, hd (HB8.out.setCell bx.h _)⟩
            case measure => simp [intOf]; omega
      · obtain rfl : k = ks.length := by omega
        have hs := HSR.out
        rw [List.take_length] at hs
        have HSF := hd hs
        clear hs
        go_wp2
        go_end0
        exact ⟨rfl, ⟨_, _, HSF.out⟩, HBR.out⟩

set_option maxRecDepth 4000 in
theorem St.quit {B gq go gh gw : Nat} {fid : FuncId} {w : World} {vo vh : Value} {L : List (List Int)} {h : List Int} (s : St B gq go gh gw fid w vo vh L h) : OwnQ w B B vo L := by
  obtain ⟨vs, h1, h2, h3⟩ := s.row
  exact ⟨vs, h1, h2, fun k u hu => (h3 k u hu).1⟩
set_option maxRecDepth 4000 in
/-- The variables as they are laid. -/
theorem st_start {B gq go gh gw : Nat} {fid : FuncId} {w w' : World} {vo : Value} {L : List (List Int)} {vs : List Value} {tw : TypeId} (bq : B ≤ gq) (bo : B ≤ go) (hgo : go ≠ gq) (hgw : gw = w.heap.size + 1) (hgh : gh = w.heap.size) (lq : gq < w.heap.size) (lo : go < w.heap.size)
    (ha : w.cell? ⟨gq, 0, none⟩ = some (.func (.func fid) #[] #[])) (ho : w.heap[go]? = some (.cells #[vo] 51 (0, 0))) (h1 : vs.length = L.length) (h2 : w.ownsRow B 27 1 vo L.length vs) (h3 : ∀ k u, vs[k]? = some u → OwnI w B u (lAt L k)) (ap : vo.ownBlock ≠ some gq ∧ vo.ownBlock ≠ some go)
    (hw' : w' = (w.alloc (.cells #[.slice none 0 0] 27)).alloc (.cells #[.func (.func 65) #[] #[.pointer (some ⟨gq, 0, none⟩), .pointer (some ⟨go, 0, none⟩), .pointer (some ⟨gh, 0, none⟩), .pointer (some ⟨gw, 0, none⟩)]] tw)) :
    Bx B gq go gh gw ∧ St B gq go gh gw fid w' vo (.slice none 0 0) L [] := by
  have hb : Below w.heap.size w w' := hw' ▸ alloc2_below w _ _
  refine ⟨⟨bq, bo, by omega, by omega, hgo, by omega, by omega, by omega, by omega⟩, ⟨?_, ?_, keepBlk ho hb, ?_, ⟨vs, h1, ownsRow_below h2 hb, fun k u hu => ⟨(h3 k u hu).below hb, fun j _ => by simp [Value.ownBlock]⟩⟩, OwnI.nil _ _, ⟨ap.1, ap.2, fun e => ?_, fun e => ?_⟩, ⟨by simp [Value.ownBlock], by simp [Value.ownBlock], by simp [Value.ownBlock], by simp [Value.ownBlock]⟩⟩⟩
  · exact (hb.cell (p := ⟨gq, 0, none⟩) lq).trans ha
  · have e : w'.heap[gw]? = some (.cells #[.func (.func 65) #[] #[.pointer (some ⟨gq, 0, none⟩), .pointer (some ⟨go, 0, none⟩), .pointer (some ⟨gh, 0, none⟩), .pointer (some ⟨gw, 0, none⟩)]] tw) := by
      have := heap_alloc_new (w.alloc (.cells #[.slice none 0 0] 27)) (.cells #[.func (.func 65) #[] #[.pointer (some ⟨gq, 0, none⟩), .pointer (some ⟨go, 0, none⟩), .pointer (some ⟨gh, 0, none⟩), .pointer (some ⟨gw, 0, none⟩)]] tw)
      rw [← hw', sz1, ← hgw] at this; exact this
    simp [World.cell?, e]
  · rw [hw', Below.heap_alloc _ _ _ (by rw [sz1]; omega), hgh]; exact heap_alloc_new _ _
  · have := (h2.lt _ e).2; omega
  · have := (h2.lt _ e).2; omega

set_option maxRecDepth 4000 in
theorem three_holds (w : World) (o o' o'' : Obj) : Holds [(w.heap.size + 2, o''), (w.heap.size + 1, o'), (w.heap.size, o)] (((w.alloc o).alloc o').alloc o'') := by
  have := ((Holds.nil w).add2 o o').add o''
  rwa [show ((w.alloc o).alloc o').heap.size = w.heap.size + 2 by simp] at this

set_option maxRecDepth 100000 in
set_option maxHeartbeats 8000000 in
theorem ppaths_any {fid : FuncId} {lv : Bool} (K : Ask fid lv) (d : Nat) (w : World) (v : Value) (n : NT) (hn : NodeAt d w w.heap.size v n) (hsz : sizeT n ≤ 1800000) :
    Calls Try.prog 53 #[v, .func (.func fid) #[] #[]] w (NewQ w.heap.size (pathsN lv n []) w) := by
  obtain ⟨lf, PA, np, pc, TA, nt, tc, KA, nk, kc, rfl⟩ := hn.val
  have HE1 := K.enters
  have HE2 := enters_of Try.func65 (by kernel_rfl) rfl
  have hpn := pathsN_eta lv n []
  obtain ⟨ab, hab⟩ : ∃ ab, (n.lf || !lv) = ab := ⟨_, rfl⟩
  rw [hab] at hpn
  have HK := fun (X : World) (hb : Below w.heap.size w X) => hd (show Calls Try.prog fid #[_] X (Still (.bool ab) X) from hab ▸ K.does d X _ n (hn.later hb))
  have HN := hd hn
  have HPN := hd hpn
  clear hn hpn hab
  go_enter Try.func53, Try.ntmps53
  go_wp2_with fail
  generalize hW : World.alloc (World.alloc (World.alloc w _) _) _ = W3
  have hb3 : Below w.heap.size w W3 := hW ▸ (((Below.refl _ _).alloc (Nat.le_refl _) _).alloc (by simp) _).alloc (by simp <;> omega) _
  have hx3 : Holds _ W3 := hW ▸ three_holds w _ _ _
  have hs3 : W3.heap.size = w.heap.size + 3 := by rw [← hW]; simp
  have HB3 := hd hb3
  have HX3 := hd hx3
  have HS3 := hd hs3
  clear hW hb3 hx3 hs3
  cases ab
  · go_upto_region 7 with (first
      | (refine (HK _ HB3.out).out.mono ?_; rintro e w1 ⟨rfl, hb1⟩; have HB1 := hd (HB3.out.trans (hb1.mono HB3.out.size)); have HX1 := hd (HX3.out.keep hb1); have hz1 := hb1.size; rw [HS3.out] at hz1; obtain ⟨o0, o1⟩ := one_cell (HX1.out.hd); clear hb1))
    generalize hW5 : World.alloc (World.alloc w1 _) _ = W5
    have hb15 : Below w1.heap.size w1 W5 := hW5 ▸ alloc2_below w1 _ _
    obtain ⟨bx, hst5⟩ := st_start (B := w.heap.size) (gq := w.heap.size + 1) (go := w.heap.size + 1 + 1) (fid := fid) (vo := .slice none 0 0) (L := []) (vs := []) (by omega) (by omega) (by omega) rfl rfl (by omega) (by omega) (one_cell (HX1.out.tl.hd)).1 (HX1.out.hd) rfl (World.ownsRow_nil _ _ _ _) (by simp) (by simp [Value.ownBlock]) hW5.symm
    have HB5 := hd (HB1.out.trans (hb15.mono HB1.out.size))
    have HX5 := hd (HX1.out.keep hb15)
    clear hW5 hb15 o0 o1
    have HC := hd (pwalk_any bx K d W5 _ n _ _ _ [] ((HN.out.below (HB5.out))) hst5 HB5.out.size (by simp; omega) (by simp; omega))
    have hw5 := hst5.walk
    obtain ⟨n0, n1, n2, n3, -⟩ := blkCells (HX5.out.tl.tl.hd)
    clear hst5
    go_wp2_with (first
      | (refine HC.out.mono ?_; rintro e w9 ⟨rfl, ⟨vo9, vh9, hs9⟩, hb9⟩; have hq9 := hs9.quit; obtain ⟨A9, c9, rfl, _⟩ := hq9.form; have HQ9 := hd hq9; have HB9 := hd (HB5.out.trans hb9); obtain ⟨g0, g1⟩ := one_cell hs9.out; clear hq9 hs9 hb9 hw5 n0 n1 n2 n3))
    go_ret
    exact ⟨A9, c9, by rw [HPN.out]; rfl, by rw [HPN.out]; exact HQ9.out, HB9.out⟩
  · go_upto_region 7 with (first
      | (refine (HK _ HB3.out).out.mono ?_; rintro e w1 ⟨rfl, hb1⟩; have HB1 := hd (HB3.out.trans (hb1.mono HB3.out.size)); have HX1 := hd (HX3.out.keep hb1); have hz1 := hb1.size; rw [HS3.out] at hz1; obtain ⟨o0, o1⟩ := one_cell (HX1.out.hd); clear hb1)
      | (at_builtin; refine wpList_append_G0 rowG _ rfl (.tmp 11) (.tmp 12) rfl w.heap.size rfl (some ⟨w1.heap.size, 0, none⟩) 1 1 (w1.heap.size + 1) [.slice none 0 0] rfl rfl (VL_new w1 _ [.slice none 0 0]) (by simp [Value.oneCell']) (by unfold maxLen; omega) (by omega) (by simp <;> omega) ?_; intro A2 c2 w2 hown2 hgrow2 hat2; have hb2 : Below w1.heap.size w1 w2 := (alloc_below w1 _).trans (hgrow2.mono (by simp)); have HB2 := hd (HB1.out.trans (hb2.mono HB1.out.size)); have HX2 := hd (HX1.out.keep hb2); have HO2 := hd hown2; have HA2 := hd hat2; have hz2 := hb2.size; obtain ⟨p0, p1⟩ := one_cell (HX2.out.hd); clear hb2 hown2 hgrow2 hat2))
    generalize hW5 : World.alloc (World.alloc (World.setCell w2 _ _) _) _ = W5
    obtain ⟨ws, hws⟩ : ∃ ws, ws = w2.setCell ⟨w.heap.size + 1 + 1, 0, none⟩ (.slice A2 1 c2) := ⟨_, rfl⟩
    rw [← hws] at hW5
    have hss : ws.heap.size = w2.heap.size := by rw [hws]; simp
    have hap : ∀ g, g < w1.heap.size → (Value.slice A2 1 c2).ownBlock ≠ some g := fun g hg e => by
      rcases HA2.out with h | ⟨g', h, hg'⟩
      · rw [h] at e; cases e
      · rw [h] at e; injection e with e; simp at hg'; omega
    have hbs : Below w.heap.size w ws := hws ▸ HB2.out.setCell (by show _ ≤ w.heap.size + 1 + 1; omega) _
    have hq5 : ws.heap[w.heap.size + 1]? = _ := hws ▸ (Below.heap_setCell _ _ _ _ (by show w.heap.size + 1 ≠ w.heap.size + 1 + 1; omega)).trans (HX2.out.tl.hd)
    have hn5 : ws.heap[w.heap.size]? = _ := hws ▸ (Below.heap_setCell _ _ _ _ (by show w.heap.size ≠ w.heap.size + 1 + 1; omega)).trans (HX2.out.tl.tl.hd)
    have ho5 : ws.heap[w.heap.size + 1 + 1]? = some (.cells #[.slice A2 1 c2] 51 (0, 0)) := by rw [hws, setCell_block (HX2.out.hd)]; rfl
    have hr5 : ws.ownsRow w.heap.size 27 1 (.slice A2 1 c2) 1 [.slice none 0 0] := hws ▸ ownsRow_setCell_other HO2.out (a := ⟨w.heap.size + 1 + 1, 0, none⟩) (hap _ (by show w.heap.size + 1 + 1 < _; omega)) _
    have hb15 : Below ws.heap.size ws W5 := hW5 ▸ alloc2_below ws _ _
    obtain ⟨bx, hst5⟩ := st_start (B := w.heap.size) (gq := w.heap.size + 1) (go := w.heap.size + 1 + 1) (gh := w2.heap.size) (gw := w2.heap.size + 1) (fid := fid) (vo := .slice A2 1 c2) (L := [[]]) (vs := [.slice none 0 0]) (by omega) (by omega) (by omega) (by omega) (by omega) (by omega) (by omega) (one_cell hq5).1 ho5 rfl hr5 (fun k u hu => by
      match k, hu with
      | 0, hu => simp at hu; subst hu; exact OwnI.nil _ _
      | k + 1, hu => simp at hu) ⟨hap _ (by omega), hap _ (by omega)⟩ hW5.symm
    have HB5 := hd (hbs.trans (hb15.mono hbs.size))
    have hn6 := keepBlk hn5 hb15
    clear hW5 hb15 o0 o1 p0 p1 hws hss hap hbs hq5 hn5 ho5 hr5
    have HC := hd (pwalk_any bx K d W5 _ n _ _ _ [] ((HN.out.below (HB5.out))) hst5 HB5.out.size (by simp; omega) (by simp; omega))
    have hw5 := hst5.walk
    obtain ⟨n0, n1, n2, n3, -⟩ := blkCells hn6
    clear hn6
    clear hst5
    go_wp2_with (first
      | (refine HC.out.mono ?_; rintro e w9 ⟨rfl, ⟨vo9, vh9, hs9⟩, hb9⟩; have hq9 := hs9.quit; obtain ⟨A9, c9, rfl, _⟩ := hq9.form; have HQ9 := hd hq9; have HB9 := hd (HB5.out.trans hb9); obtain ⟨g0, g1⟩ := one_cell hs9.out; clear hq9 hs9 hb9 hw5 n0 n1 n2 n3))
    go_ret
    exact ⟨A9, c9, by rw [HPN.out]; rfl, by rw [HPN.out]; exact HQ9.out, HB9.out⟩

set_option maxRecDepth 4000 in
set_option maxHeartbeats 2000000 in
theorem wleaves_any (d : Nat) (w : World) (v : Value) (n : NT) (hn : NodeAt d w w.heap.size v n) (hsz : sizeT n ≤ 1800000) : Calls Try.prog 32 #[v] w (NewQ w.heap.size (pathsN true n []) w) := by
  obtain ⟨lf, PA, np, pc, TA, nt, tc, KA, nk, kc, rfl⟩ := hn.val
  have hb := alloc_below w (.cells #[.bool lf, .slice PA np pc, .slice TA nt tc, .slice KA nk kc] 26)
  have HC := hd (ppaths_any askL d _ _ n (hn.later hb) hsz)
  have HB := hd hb
  clear hn
  go_enter Try.func32, Try.ntmps32
  go_wp2_with (first
    | (refine HC.out.mono ?_; rintro e w1 ⟨A1, c1, rfl, hq1, hb1⟩; have HQ1 := hd hq1; have HB1 := hd (HB.out.trans (hb1.mono HB.out.size)); clear hq1 hb1))
  go_ret
  exact ⟨A1, c1, rfl, HQ1.out.weaken HB.out.size HB.out.size, HB1.out⟩
set_option maxRecDepth 4000 in
set_option maxHeartbeats 2000000 in
theorem rwleaves_any (d : Nat) (w : World) (v : Value) (n : NT) (hn : NodeAt d w w.heap.size v n) (hsz : sizeT n ≤ 1800000) : Calls Try.prog 42 #[v] w (NewQ w.heap.size (pathsN true n []) w) := by
  obtain ⟨lf, PA, np, pc, TA, nt, tc, KA, nk, kc, rfl⟩ := hn.val
  have hb := alloc_below w (.cells #[.bool lf, .slice PA np pc, .slice TA nt tc, .slice KA nk kc] 26)
  have HC := hd (rpaths_true d _ _ n none [] 0 0 _ rfl (by omega) (hn.later hb) (OwnI.nil _ _) (Nat.le_refl _))
  have HB := hd hb
  clear hn
  go_enter Try.func42, Try.ntmps42
  go_wp2_with (first
    | (refine HC.out.mono ?_; rintro e w1 ⟨A1, c1, rfl, hq1, hb1⟩; have HQ1 := hd hq1; have HB1 := hd (HB.out.trans (hb1.mono HB.out.size)); clear hq1 hb1))
  go_ret
  exact ⟨A1, c1, rfl, HQ1.out.weaken HB.out.size HB.out.size, HB1.out⟩

set_option maxRecDepth 4000 in
theorem paths_bound {lv : Bool} {n : NT} (hsz : sizeT n ≤ 1800000) : (pathsN lv n []).length ≤ 3000000 ∧ ∀ k, k < (pathsN lv n []).length → (lAt (pathsN lv n []) k).length ≤ 3000000 := by
  refine ⟨by have := pathsN_len lv n []; omega, fun k hk => ?_⟩
  have := pathsN_each lv n [] (lAt (pathsN lv n []) k) (by rw [lAt_eq _ k hk]; exact List.getElem_mem hk)
  simp at this; omega

end Go.Proofs.Ytjolmnghoigggaa
