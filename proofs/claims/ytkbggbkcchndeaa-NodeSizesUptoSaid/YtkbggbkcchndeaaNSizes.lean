/- NodeSizes answers true, where the tree is no greater than 1048576. -/
import Derived.Test.YtkbggbkcchndeaaNText
namespace Go.Proofs.Ytkbggbkcchndeaa
open Go.RowKit

theorem Box.keepb {w w' : World} {b : Nat} {u0 u1 u2 u3 : Value} (h : Box w b u0 u1 u2 u3) (hb : Below (b + 1) w w') : Box w' b u0 u1 u2 u3 :=
  ⟨(hb.cell (Nat.lt_succ_self _)).trans h.1, (hb.cell (Nat.lt_succ_self _)).trans h.2.1, (hb.cell (Nat.lt_succ_self _)).trans h.2.2.1, (hb.cell (Nat.lt_succ_self _)).trans h.2.2.2⟩

set_option maxHeartbeats 8000000 in
theorem sizes_any (d : Nat) (w : World) (v : Value) (n : NT) (hs : sizeT n ≤ 1048576) (hn : NodeAt d w w.heap.size v n) : Calls Try.prog 6 #[v] w (Still (.bool true) w) := by
  have hn0 := hn
  obtain ⟨d', lf, ps, tx, ks, PA, pc, TA, tc, KA, kc, hd', rfl, rfl, hp, ht, hf, hks⟩ := hn.open_
  have hb1 : Below w.heap.size w (w.alloc (.cells #[.bool lf, .slice PA ps.length pc, .slice TA tx.length tc, .slice KA ks.length kc] 26)) := (Below.refl _ _).alloc (Nat.le_refl _) _
  have HL := hd (live_any (w.alloc (.cells #[.bool lf, .slice PA ps.length pc, .slice TA tx.length tc, .slice KA ks.length kc] 26)))
  have HC := fun (w' : World) (hb : Below w.heap.size w w') => hd (few_any d w' _ _ 200 (by unfold In64; omega) (hn0.later hb))
  have htl := textT_le (.mk lf ps tx ks)
  have hsz0 : 1 + tx.length + sizeK ks ≤ 1048576 := by simpa [sizeT] using hs
  have HY := fun (w' : World) (hb : Below w.heap.size w w') => hd (rcopy_any TA tx tc w' (by omega) ((ht.below hb).more hb.size))
  have HT := fun (w' : World) (hb : Below w.heap.size w w') => hd (text_any d w' _ _ (by omega) (hn0.later hb))
  have HS := fun (w' : World) (hb : Below w.heap.size w w') => hd (size_any d w' _ _ (hn0.later hb))
  have hse : wrap64 (sizeT (.mk lf ps tx ks)) = ((1 + tx.length + sizeK ks : Nat) : Int) := by rw [wrap_id _ (by omega) (by omega)]; simp [sizeT]
  obtain ⟨Z, hZ⟩ : ∃ Z : Int, Z = ((1 + tx.length + sizeK ks : Nat) : Int) := ⟨_, rfl⟩
  rw [hse, ← hZ] at HS
  have hzb : 0 ≤ Z ∧ Z ≤ 1048576 := by omega
  obtain ⟨hz1, hz2⟩ := hzb
  have HZ := hd hZ
  have HB := hd hb1
  have HKS := hd hks
  have hl2 := hf.2.2.1
  have hl3 := hf.2.2.2
  have HSZ := hd hsz0
  obtain ⟨L, hL⟩ : ∃ L, L = textT (.mk lf ps tx ks) := ⟨_, rfl⟩
  rw [← hL] at HT htl
  have HLt := hd (show L = tx ++ textK ks by rw [hL]; rfl)
  have hLl : L.length ≤ 1048576 := by omega
  obtain ⟨F, hF⟩ : ∃ F, F = fewB 200 (.mk lf ps tx ks) := ⟨_, rfl⟩
  simp only [← hF] at HC
  have htx : tx.length ≤ 1048576 := by omega
  clear hn hn0 hp ht hf hks hd' hb1 hF hZ hse hL htl hs hsz0
  cases F
  · clear HY HT HS HKS
    go_enter Try.func6, Try.ntmps6
    go_wp2_with (first
      | (go_at_call 10; refine (HC _ B1.out).out.mono ?_; rintro e w2 ⟨rfl, b2⟩)
      | (go_at_call 9; refine HL.out.mono ?_; rintro e w1 ⟨rfl, b1⟩; obtain ⟨x0, x1, x2, x3⟩ := box4 b1; have B1 := hd (HB.out.trans (b1.mono HB.out.size))))
    go_ret
    exact ⟨rfl, B1.out.trans (b2.mono B1.out.size)⟩
  · go_enter Try.func6, Try.ntmps6
    go_wp2_with (first
      | (go_at_call 24; refine (HY _ B2.out).out.mono ?_; intro e w3 h3; obtain ⟨A3, c3, rfl, _, _, ho3, b3⟩ := h3.own tx.length rfl; have X3 := hd (X2.out.keep b3); have HO3 := hd (ho3.weaken (b' := w.heap.size + 1) X2.out.lt); have B3 := hd (B2.out.trans (b3.mono B2.out.size)); clear x0 x1 x2 x3; obtain ⟨x0, x1, x2, x3⟩ := X3.out; clear b3 ho3)
      | (go_at_call 10; refine (HC _ B1.out).out.mono ?_; rintro e w2 ⟨rfl, b2⟩; have X2 := hd (X1.out.keep b2); have B2 := hd (B1.out.trans (b2.mono B1.out.size)); clear x0 x1 x2 x3; obtain ⟨x0, x1, x2, x3⟩ := X2.out; clear b2)
      | (go_at_call 9; refine HL.out.mono ?_; rintro e w1 ⟨rfl, b1⟩; have X1 := hd ((Box.new _ _ _ _ _ _).keep b1); obtain ⟨x0, x1, x2, x3⟩ := X1.out; have B1 := hd (HB.out.trans (b1.mono HB.out.size)); clear b1))
    have hx3 := X3.out.lt
    clear x0 x1 x2 x3 HL HC HY X1 X2
    go_loopw [3, 4, 22] (fun y z i wr => ∃ (k : Nat) (q : Nat), k ≤ ks.length ∧ y = .int .i64 q ∧ i = .int .i64 k ∧ Hid (OwnV 21 wr (w.heap.size + 1) z (rv (tx ++ textK (ks.take k)))) ∧ Hid (Below (w.heap.size + 1) w3 wr) ∧ Hid (q = 1 + tx.length + sizeK (ks.take k))) (fun _ _ i _ => ks.length - (intOf i).toNat)
    case atStart => exact ⟨0, 1 + tx.length, Nat.zero_le _, by go_num, rfl, (by simpa [textK] using HO3), hd (Below.refl _ _), hd (by simp [sizeK])⟩
    case round =>
      obtain ⟨k, q, hk, rfl, rfl, HO, HR, HQ⟩ := hrel
      clear HO3
      have hbr := B3.out.trans (HR.out.mono (Nat.le_succ _))
      have hsz := hbr.size
      have hsr := HR.out.size
      by_cases hlt : k < ks.length
      · obtain ⟨m, b, o, lf', PA', np', pc', TA', nt', tc', KA', nk', kc', hm, rfl, hbg, hnm, c0, c1, c2, c3⟩ := (HKS.out.below hbr).at_ hlt
        obtain ⟨wk, hwk⟩ : ∃ wk, wk = wr.alloc (.cells #[.bool lf', .slice PA' np' pc', .slice TA' nt' tc', .slice KA' nk' kc'] 26) := ⟨_, rfl⟩
        have hbk2 : Below wr.heap.size wr wk := hwk ▸ (Below.refl _ _).alloc (Nat.le_refl _) _
        have htk := textK_take hm
        have hzk := sizeK_take hm
        have hmk := sizeK_mem hm
        have hml := textT_le m
        have htl := textK_le (ks.take k)
        have htot : sizeK (ks.take (k + 1)) ≤ sizeK ks := by
          have : sizeK ks = sizeK (ks.take (k + 1)) + sizeK (ks.drop (k + 1)) := by rw [← sizeK_append, List.take_append_drop]
          omega
        have hall := HSZ.out
        have hq := HQ.out
        have hnk := (((hnm.more hsz).below hbk2)).more hbk2.size
        have HMS := hd (size_any d' wk _ m hnk)
        obtain ⟨x, hx⟩ : ∃ x : Nat, x = sizeT m := ⟨_, rfl⟩
        rw [wrap_id _ (by omega) (by omega), ← hx] at HMS
        have HMT := fun (w' : World) (hb : Below wk.heap.size wk w') => hd (text_any d' w' _ m (by omega) (hnk.later hb))
        have HK := hd (hwk ▸ hbr.alloc (by omega) _ : Below w.heap.size w wk)
        have HK3 := hd (hwk ▸ HR.out.alloc (by omega) _ : Below (w.heap.size + 1) w3 wk)
        have HOK := hd (HO.out.below hbk2)
        have HTK := hd htk
        have HQ2 := hd (show q + x = 1 + tx.length + sizeK (ks.take (k + 1)) by omega)
        have hqb : q + x ≤ 1048576 := by omega
        have hll : (tx ++ textK (ks.take k)).length + (textT m).length ≤ 1100000 := by rw [List.length_append]; omega
        subst hwk
        clear hm hnm hnk hbk2 HKS htk hzk hmk hml htl htot hall hq hx hbr HO HQ
        go_wp2_with (first
          | (at_builtin; refine wpList_append_X _ rfl (.tmp 30) (.tmp 32) rfl (w.heap.size + 1) _ (rv (tx ++ textK (ks.take k))) (rv (textT m)) rfl ((HOK.out.below hb4).below hb5) A5 (textT m).length c5 _ rfl (rv_len _) hv5 (rv_one _) (by rw [rv_len, rv_len]; omega) (Nat.le_trans hx3 (Nat.le_trans HK3.out.size (Nat.le_trans hb4.size hb5.size))) ?_; intro v6 w6 ho6 hg6 _; have HO6 := hd ho6; have HG6 := hd hg6; clear ho6 hg6)
          | (go_at_call 19; refine (HMT _ hb4).out.mono ?_; intro e w5 h5; obtain ⟨A5, c5, rfl, _, hv5, _, hb5⟩ := h5.own (textT m).length rfl)
          | (go_at_call 12; refine HMS.out.mono ?_; rintro e w4 ⟨rfl, hb4⟩; obtain ⟨z0, z1, z2, z3⟩ := box4 hb4))
        go_roundw
        case rel => exact ⟨k + 1, q + x, by omega, by go_num, by go_num, (by rw [HTK.out, ← List.append_assoc, rv_append]; exact HO6), hd (HG6.out.below _ _ (Nat.le_refl _) (Nat.le_trans hx3 (Nat.le_trans HK3.out.size (Nat.le_trans hb4.size hb5.size))) (HK3.out.trans ((hb4.trans (hb5.mono hb4.size)).mono (Nat.le_trans hx3 HK3.out.size)))), HQ2⟩
        case measure => simp [intOf]; omega
      · obtain ⟨A6, c6, rfl, _, _, hv6, _⟩ := HO.out.open_at L.length (by rw [HLt.out, List.take_of_length_le (by omega), rv_len])
        have hv7 := hd (show VL wr wr.heap.size A6 (rv L) by rw [List.take_of_length_le (by omega)] at hv6; rw [HLt.out]; exact hv6)
        have hqz : (q : Int) = Z := by rw [HZ.out, HQ.out, List.take_of_length_le (by omega)]
        have hbx := B3.out.trans (HR.out.mono (Nat.le_succ _))
        have HBX := hd hbx
        have X4 := hd (X3.out.keepb HR.out)
        obtain ⟨x0, x1, x2, x3⟩ := X4.out
        have hE := hd (sameL_self L)
        clear hv6 HQ HO HKS hbr
        go_wp2_with (first
          | (go_at_call 18; refine (rsame_any A8 A6 L L L.length L.length c8 c6 true hE.out _ rfl rfl (by omega) (by omega) hv8 ((hv7.out.later hb7).later hb8)).mono ?_; rintro e w9 ⟨rfl, kd, rfl⟩)
          | (go_at_call 19; refine (HT _ (HBX.out.trans (hb7.mono HBX.out.size))).out.mono ?_; intro e w8 h8; obtain ⟨A8, c8, rfl, _, hv8, _, hb8⟩ := h8.own L.length rfl)
          | (go_at_call 12; refine (HS _ HBX.out).out.mono ?_; rintro e w7 ⟨rfl, hb7⟩; clear x0 x1 x2 x3; obtain ⟨x0, x1, x2, x3⟩ := X4.out.keep hb7))
        go_ret
        exact ⟨rfl, below_drewN ((HBX.out.trans (hb7.mono HBX.out.size)).trans (hb8.mono (Nat.le_trans HBX.out.size hb7.size))) _⟩

end Go.Proofs.Ytkbggbkcchndeaa
