/- The first leaf of a tree at a path, or behind it (firstFrom). -/
import Derived.Test.YtjolmnghoigggaaKLast
namespace Go.Proofs.Ytjolmnghoigggaa
open Go.RowKit

def FirstC (d : Nat) : Prop := ∀ (w : World) (v : Value) (n : NT) (A : Option Addr) (p : List Int) (lp c : Nat), sizeT n ≤ 1048576 → p.length = lp → lp ≤ 1000000 → lp ≤ c → NodeAt d w w.heap.size v n → IL w w.heap.size A p → Calls Try.prog 50 #[v, .slice A lp c] w (Got w (FirstIs n (fromB p)) (fun _ => 0))


set_option maxRecDepth 4000 in
set_option maxHeartbeats 4000000 in
theorem first_step (d : Nat) (HA : FirstC d) : FirstC (d + 1) := by
  intro w v n A p lp c hM hlp hl hc hn hp
  obtain ⟨d', lf, ps, tx, ks, PA, pc, TA, tc, KA, kc, hd', rfl, rfl, hps, htx, hf, hks⟩ := hn.open_
  obtain rfl : d = d' := by omega
  have hl3 := hf.2.2.2.1
  obtain ⟨W0, hW⟩ : ∃ W0, W0 = (w.alloc (.cells #[.bool lf, .slice PA ps.length pc, .slice TA tx.length tc, .slice KA ks.length kc] 26)).alloc (.cells #[.slice none 0 0, .int .i64 0] 29) := ⟨_, rfl⟩
  have hb0 : Below w.heap.size w W0 := hW ▸ below_mono2 (Below.refl _ _) (Nat.le_refl _)
  have hz0 : W0.heap.size = w.heap.size + 1 + 1 := by rw [hW]; simp
  have e0 := pt_new w (Obj.cells #[Value.bool lf, .slice PA ps.length pc, .slice TA tx.length tc, .slice KA ks.length kc] 26) (Obj.cells #[Value.slice none 0 0, Value.int .i64 0] 29)
  rw [← hW] at e0
  have HKS := hd hks
  have HP := hd hp
  have HW := hd hW
  have HB0 := hd hb0
  have HZ0 := hd hz0
  have HX0 := hd e0.1
  have HY0 := hd e0.2
  have HM := hd hM
  obtain ⟨x0, x1, x2, x3, _, _, _, _⟩ := blkCells HX0.out
  obtain ⟨y0, y1, k0, k1⟩ := blk2 HY0.out
  clear hn hps htx hf hks hp hW hb0 e0 hd' hM hz0
  cases p with
  | nil =>
    obtain rfl : lp = 0 := hlp.symm
    cases lf with
    | true =>
      go_enter Try.func50, Try.ntmps50
      go_wp2
      rw [← HW.out]
      refine bodyPost_ret (v := .tuple #[.agg #[.slice none 0 0, .int .i64 0], .bool true]) (by simp [results, Try.results50, go_sem, y0, y1]) rfl ⟨some [], none, 0, 0, 0, from_self rfl, rfl, HB0.out, fun q h => ?_⟩
      injection h with h
      subst h
      exact ⟨rfl, OwnI.nil _ _, rfl⟩
    | false =>
      obtain ⟨D, hD, hDA, hrun0⟩ := tailI_run (some ⟨w.heap.size + 1 + 1, 0, none⟩) 0 1 (by omega)
      have hrun : ∀ W : World, (Instr.slice 27 (.slice (some ⟨w.heap.size + 1 + 1, 0, none⟩) 1 1) (some (.int .i64 1)) none none).run Try.prog W = .ok (.slice D 0 0) W := hrun0
      have hrk : ([] : List Int).length = 0 := rfl
      obtain ⟨W1, hW1⟩ : ∃ W1, W1 = W0.alloc (.cells #[.int .i64 0] 3) := ⟨_, rfl⟩
      have hb1 : Below W0.heap.size W0 W1 := hW1 ▸ (Below.refl _ _).alloc (Nat.le_refl _) _
      have HBS := hd (HB0.out.trans (hb1.mono HB0.out.size))
      have HXS := hd (keepBlk HX0.out hb1)
      have HYS := hd (keepBlk HY0.out hb1)
      have HPS := hd (show W1.cell? ⟨w.heap.size + 1 + 1, 0, none⟩ = some (.int .i64 0) by rw [hW1, World.cell?_alloc_at _ _ _ _ (by show _ = W0.heap.size; rw [HZ0.out])]; rfl)
      have HD := hd (IL.nil w w.heap.size D)
      have HW1 := hd hW1
      clear hW1 hb1 hrun0 hD hDA
      go_enter Try.func50, Try.ntmps50
      go_upto_region 6 with (fail)
      rw [← HW.out, ← HW1.out]
      clear x0 x1 x2 x3 y0 y1 k0 k1
      go_loopw [6] (fun i wr => ∃ I : Nat, i = .int .i64 (I : Int) ∧ 0 ≤ (I : Int) ∧ Hid (Below w.heap.size w wr) ∧ Hid (wr.heap[w.heap.size]? = some (.cells #[.bool false, .slice PA ps.length pc, .slice TA tx.length tc, .slice KA ks.length kc] 26 (0, 0))) ∧ Hid (wr.heap[w.heap.size + 1]? = some (.cells #[.slice none 0 0, .int .i64 0] 29 (0, 0))) ∧
        Hid (wr.cell? ⟨w.heap.size + 1 + 1, 0, none⟩ = some (.int .i64 0)) ∧ Hid (∀ (j : Nat) (m : NT), 0 ≤ (j : Int) → j < I → ks[j]? = some m → FirstIs m (kidF 0 [] j) none)) (fun i _ => ks.length - (intOf i).toNat)
      case atStart => exact ⟨0, by first | rfl | simp, by omega, hd HBS.out, hd HXS.out, hd HYS.out, hd HPS.out, hd (fun j m h1 h2 h3 => by omega)⟩
      case round =>
        obtain ⟨j, rfl, hI1, HB, HX, HY, HPC, HN⟩ := hrel
        obtain ⟨x0, x1, x2, x3, _, _, _, _⟩ := blkCells HX.out
        by_cases hj : j < ks.length
        · obtain ⟨m2, b', o', lf2, PA2, np2, pc2, TA2, nt2, tc2, KA2, nk2, kc2, hm2, rfl, hbg2, hnm2, c0, c1, c2, c3⟩ := (HKS.out.below HB.out).at_ hj
          have HN2 := hd hnm2
          have HM2 := hd hm2
          have hpc := HPC.out
          have hMS : sizeT m2 ≤ 1048576 := by have h1 := sizeT_kid HM2.out; have h2 := HM.out; rw [sizeT] at h2; omega
          have HMS := hd hMS
          have HS := hd HB.out.size
          by_cases hjx : (j : Int) = 0
          · have g1 : ((j : Int) == 0) = true := by simp [hjx]
            have HCH := hd (HA wr _ m2 D [] 0 0 hMS hrk (by omega) (by omega) (HN2.out.more HS.out) ((HD.out.below HB.out).more HS.out))
            have HK := hd (show kidF 0 [] j = fromB [] by unfold kidF; rw [if_pos hjx])
            clear hnm2 hm2 hMS hjx HA
            go_upto_region 12 with (go_at_call 50; refine Calls.mono HCH.out ?_; intro e w3 h3; obtain ⟨r3, A3, k3, c3', o3, hP3, rfl, hb3, hq3⟩ := h3; have HB3 := hd hb3; have HP3 := hd (HK.out.symm ▸ hP3); have HO3 := hd hq3; clear hP3 hb3 hq3 c0 c1 c2 c3 x0 x1 x2 x3 hpc)
            obtain ⟨c3, hc3⟩ : ∃ c3, c3 = c3' := ⟨_, rfl⟩
            subst hc3
            obtain ⟨W4, hW4⟩ : ∃ W4, W4 = w3.alloc (.cells #[.slice A3 k3 c3, .int .i64 o3] 29) := ⟨_, rfl⟩
            rw [← hW4]
            have hb4 : Below w3.heap.size w3 W4 := hW4 ▸ (Below.refl _ _).alloc (Nat.le_refl _) _
            have HB4 := hd (show Below wr.heap.size wr W4 from HB3.out.trans (hb4.mono HB3.out.size))
            have HQ4 := hd (show W4.heap[w3.heap.size]? = some (.cells #[.slice A3 k3 c3, .int .i64 o3] 29 (0, 0)) from hW4 ▸ heap_alloc_new _ _)
            have HX4 := hd (keepBlk HX.out HB4.out)
            have HY4 := hd (keepBlk HY.out HB4.out)
            have HP4 := hd ((HB4.out.cell (cell_in HPC.out)).trans HPC.out)
            have HO4 := hd (show ∀ q, r3 = some q → k3 = q.length ∧ OwnI W4 wr.heap.size (.slice A3 k3 c3) q.reverse ∧ o3 = 0 from fun q hq => by
              obtain ⟨h1, h2, h3⟩ := HO3.out q hq
              exact ⟨h1, h2.below hb4, h3⟩)
            clear hW4 hb4 HO3
            obtain ⟨q0, q1, q2, q3⟩ := blk2 HQ4.out
            have hlx := lt_of_block HY.out
            cases r3 with
            | none =>
              have HN' := hd (show ∀ (j' : Nat) (m : NT), 0 ≤ (j' : Int) → j' < j + 1 → ks[j']? = some m → FirstIs m (kidF 0 [] j') none from fun j' m h1 h2 h3 => by
                by_cases e : j' = j
                · subst e
                  rw [HM2.out] at h3
                  injection h3 with h3
                  rw [← h3]; exact HP3.out
                · exact HN.out j' m h1 (by omega) h3)
              clear HO4 q0 q1 q2 q3
              go_wp2
              go_roundw
              case rel => exact ⟨j + 1, by first | go_num | rfl, by omega, hd (HB.out.trans (HB4.out.mono HS.out)), HX4, HY4, HP4, HN'⟩
              case measure => first | (simp [intOf]; done) | (simp [intOf]; omega)
            | some q =>
              obtain ⟨e1, ho, e3⟩ := HO4.out q rfl
              have hq := leafB_short HP3.out.1
              have hms := HMS.out
              have h4 := HB4.out.size
              have h5 := lt_of_block HQ4.out
              have HU := hd (under_any wr.heap.size A3 q.reverse (j : Int) o3 k3 c3 W4 (by simp [e1]) (by omega) ho (by omega))
              have HE1 := hd e1
              have HE3 := hd e3
              clear ho e1 e3 hq hms
              go_wp2_with (go_at_call 63; refine HU.out.mono ?_; rintro e w5 ⟨A5, n5, c5, e5, rfl, ho5, hb5⟩; have HY5 := hd ((hb5.block (w.heap.size + 1) (by omega)).trans HY4.out); have HB5 := hd hb5; have HO5 := hd ho5; have HE5 := hd e5; clear hb5 ho5 e5 q0 q1 q2 q3; obtain ⟨y0, y1, k0, k1⟩ := blk2 HY5.out)
              have hY6 := blk2_both HY5.out (.slice A5 n5 c5) (.int .i64 o3)
              obtain ⟨z0, z1, _, _⟩ := blk2 hY6
              have ho6 := (HO5.out.pt (x := .slice A5 n5 c5) (y := .int .i64 o3) HY5.out).2
              clear y0 y1 k0 k1
              refine bodyPost_ret (v := .tuple #[.agg #[.slice A5 n5 c5, .int .i64 o3], .bool true]) (by simp [results, Try.results50, go_sem, z0, z1]) rfl ⟨some ((j : Int) :: q), A5, n5, c5, o3, from_zero rfl (from_some hI1 HM2.out HP3.out (fun j' m h1 h2 h3 => HN.out j' m h2 h1 h3)), rfl, ?_, fun q' hq' => ?_⟩
              · have hb9 : Below w.heap.size w W4 := HB.out.trans (HB4.out.mono HS.out)
                exact ((hb9.trans (HB5.out.mono HS.out)).setCell (by show _ ≤ w.heap.size + 1; omega) _).setCell (by show _ ≤ w.heap.size + 1; omega) _
              · injection hq' with hq'
                subst hq'
                refine ⟨by rw [HE5.out]; simp, ?_, HE3.out⟩
                rw [List.reverse_cons]
                exact ho6.weaken HS.out
          · have g1 : ((j : Int) == 0) = false := beq_eq_false_iff_ne.2 hjx
            have HCH := hd (HA wr _ m2 none [] 0 0 hMS rfl (by omega) (by omega) (HN2.out.more HS.out) (IL.nil _ _ _))
            have HK := hd (show kidF 0 [] j = fromB [] by unfold kidF; rw [if_neg hjx])
            clear hnm2 hm2 hMS hjx HA
            go_upto_region 12 with (go_at_call 50; refine Calls.mono HCH.out ?_; intro e w3 h3; obtain ⟨r3, A3, k3, c3', o3, hP3, rfl, hb3, hq3⟩ := h3; have HB3 := hd hb3; have HP3 := hd (HK.out.symm ▸ hP3); have HO3 := hd hq3; clear hP3 hb3 hq3 c0 c1 c2 c3 x0 x1 x2 x3 hpc)
            obtain ⟨c3, hc3⟩ : ∃ c3, c3 = c3' := ⟨_, rfl⟩
            subst hc3
            obtain ⟨W4, hW4⟩ : ∃ W4, W4 = w3.alloc (.cells #[.slice A3 k3 c3, .int .i64 o3] 29) := ⟨_, rfl⟩
            rw [← hW4]
            have hb4 : Below w3.heap.size w3 W4 := hW4 ▸ (Below.refl _ _).alloc (Nat.le_refl _) _
            have HB4 := hd (show Below wr.heap.size wr W4 from HB3.out.trans (hb4.mono HB3.out.size))
            have HQ4 := hd (show W4.heap[w3.heap.size]? = some (.cells #[.slice A3 k3 c3, .int .i64 o3] 29 (0, 0)) from hW4 ▸ heap_alloc_new _ _)
            have HX4 := hd (keepBlk HX.out HB4.out)
            have HY4 := hd (keepBlk HY.out HB4.out)
            have HP4 := hd ((HB4.out.cell (cell_in HPC.out)).trans HPC.out)
            have HO4 := hd (show ∀ q, r3 = some q → k3 = q.length ∧ OwnI W4 wr.heap.size (.slice A3 k3 c3) q.reverse ∧ o3 = 0 from fun q hq => by
              obtain ⟨h1, h2, h3⟩ := HO3.out q hq
              exact ⟨h1, h2.below hb4, h3⟩)
            clear hW4 hb4 HO3
            obtain ⟨q0, q1, q2, q3⟩ := blk2 HQ4.out
            have hlx := lt_of_block HY.out
            cases r3 with
            | none =>
              have HN' := hd (show ∀ (j' : Nat) (m : NT), 0 ≤ (j' : Int) → j' < j + 1 → ks[j']? = some m → FirstIs m (kidF 0 [] j') none from fun j' m h1 h2 h3 => by
                by_cases e : j' = j
                · subst e
                  rw [HM2.out] at h3
                  injection h3 with h3
                  rw [← h3]; exact HP3.out
                · exact HN.out j' m h1 (by omega) h3)
              clear HO4 q0 q1 q2 q3
              go_wp2
              go_roundw
              case rel => exact ⟨j + 1, by first | go_num | rfl, by omega, hd (HB.out.trans (HB4.out.mono HS.out)), HX4, HY4, HP4, HN'⟩
              case measure => first | (simp [intOf]; done) | (simp [intOf]; omega)
            | some q =>
              obtain ⟨e1, ho, e3⟩ := HO4.out q rfl
              have hq := leafB_short HP3.out.1
              have hms := HMS.out
              have h4 := HB4.out.size
              have h5 := lt_of_block HQ4.out
              have HU := hd (under_any wr.heap.size A3 q.reverse (j : Int) o3 k3 c3 W4 (by simp [e1]) (by omega) ho (by omega))
              have HE1 := hd e1
              have HE3 := hd e3
              clear ho e1 e3 hq hms
              go_wp2_with (go_at_call 63; refine HU.out.mono ?_; rintro e w5 ⟨A5, n5, c5, e5, rfl, ho5, hb5⟩; have HY5 := hd ((hb5.block (w.heap.size + 1) (by omega)).trans HY4.out); have HB5 := hd hb5; have HO5 := hd ho5; have HE5 := hd e5; clear hb5 ho5 e5 q0 q1 q2 q3; obtain ⟨y0, y1, k0, k1⟩ := blk2 HY5.out)
              have hY6 := blk2_both HY5.out (.slice A5 n5 c5) (.int .i64 o3)
              obtain ⟨z0, z1, _, _⟩ := blk2 hY6
              have ho6 := (HO5.out.pt (x := .slice A5 n5 c5) (y := .int .i64 o3) HY5.out).2
              clear y0 y1 k0 k1
              refine bodyPost_ret (v := .tuple #[.agg #[.slice A5 n5 c5, .int .i64 o3], .bool true]) (by simp [results, Try.results50, go_sem, z0, z1]) rfl ⟨some ((j : Int) :: q), A5, n5, c5, o3, from_zero rfl (from_some hI1 HM2.out HP3.out (fun j' m h1 h2 h3 => HN.out j' m h2 h1 h3)), rfl, ?_, fun q' hq' => ?_⟩
              · have hb9 : Below w.heap.size w W4 := HB.out.trans (HB4.out.mono HS.out)
                exact ((hb9.trans (HB5.out.mono HS.out)).setCell (by show _ ≤ w.heap.size + 1; omega) _).setCell (by show _ ≤ w.heap.size + 1; omega) _
              · injection hq' with hq'
                subst hq'
                refine ⟨by rw [HE5.out]; simp, ?_, HE3.out⟩
                rw [List.reverse_cons]
                exact ho6.weaken HS.out
        · have HF := hd (from_zero rfl (from_none (n := .mk false ps tx ks) (x := 0) (r := []) fun j' m h1 h2 => HN.out j' m h1 (by have := (List.getElem?_eq_some_iff.1 h2).1; simp only [NT.ks] at this; omega) h2))
          obtain ⟨y0, y1, k0, k1⟩ := blk2 HY.out
          clear HN HA
          go_wp2
          have hY6 := blk2_both HY.out (.slice none 0 0) (.int .i64 0)
          obtain ⟨z0, z1, _, _⟩ := blk2 hY6
          clear y0 y1 k0 k1
          refine bodyPost_ret (v := .tuple #[.agg #[.slice none 0 0, .int .i64 0], .bool false]) (by simp [results, Try.results50, go_sem, z0, z1]) rfl ⟨none, none, 0, 0, 0, HF.out, rfl, (HB.out.setCell (by show _ ≤ w.heap.size + 1; omega) _).setCell (by show _ ≤ w.heap.size + 1; omega) _, fun q h => by cases h⟩
  | cons x r =>
    obtain ⟨k, rfl⟩ : ∃ k, lp = k + 1 := ⟨r.length, by rw [← hlp]; simp⟩
    have hrk : r.length = k := by simpa using hlp
    have hz : ((k : Int) + 1 == 0) = false := by simp; omega
    obtain ⟨b, o, rfl, hbl, hc0⟩ := HP.out.at_ (k := 0) (by simp)
    have ex : iAt (x :: r) 0 = x := rfl
    rw [ex, Nat.add_zero] at hc0
    obtain ⟨D, hD, hDA, hrun⟩ := tailI_run (some ⟨b, o, none⟩) k c hc
    have HD := hd (hD w _ x r HP.out hrk)
    have hc1 := (HB0.out.cell (p := ⟨b, o, none⟩) hbl).trans hc0
    have HBS := hd HB0.out
    have HXS := hd HX0.out
    have HYS := hd HY0.out
    have HPS := hd hc1
    clear hlp hD hDA hc0 ex
    by_cases hx0 : x < 0
    · go_enter Try.func50, Try.ntmps50
      go_upto_region 5 with (fail)
      rw [← HW.out]
      go_upto_region 6 with (fail)
      clear x0 x1 x2 x3 y0 y1 k0 k1 hc1
      go_loopw [6] (fun i wr => ∃ I : Nat, i = .int .i64 (I : Int) ∧ x ≤ (I : Int) ∧ Hid (Below w.heap.size w wr) ∧ Hid (wr.heap[w.heap.size]? = some (.cells #[.bool lf, .slice PA ps.length pc, .slice TA tx.length tc, .slice KA ks.length kc] 26 (0, 0))) ∧ Hid (wr.heap[w.heap.size + 1]? = some (.cells #[.slice none 0 0, .int .i64 0] 29 (0, 0))) ∧
        Hid (wr.cell? ⟨b, o, none⟩ = some (.int .i64 x)) ∧ Hid (∀ (j : Nat) (m : NT), x ≤ (j : Int) → j < I → ks[j]? = some m → FirstIs m (kidF x r j) none)) (fun i _ => ks.length - (intOf i).toNat)
      case atStart => exact ⟨0, by first | rfl | simp, by omega, hd HBS.out, hd HXS.out, hd HYS.out, hd HPS.out, hd (fun j m h1 h2 h3 => by omega)⟩
      case round =>
        obtain ⟨j, rfl, hI1, HB, HX, HY, HPC, HN⟩ := hrel
        obtain ⟨x0, x1, x2, x3, _, _, _, _⟩ := blkCells HX.out
        by_cases hj : j < ks.length
        · obtain ⟨m2, b', o', lf2, PA2, np2, pc2, TA2, nt2, tc2, KA2, nk2, kc2, hm2, rfl, hbg2, hnm2, c0, c1, c2, c3⟩ := (HKS.out.below HB.out).at_ hj
          have HN2 := hd hnm2
          have HM2 := hd hm2
          have hpc := HPC.out
          have hMS : sizeT m2 ≤ 1048576 := by have h1 := sizeT_kid HM2.out; have h2 := HM.out; rw [sizeT] at h2; omega
          have HMS := hd hMS
          have HS := hd HB.out.size
          by_cases hjx : (j : Int) = x
          · have g1 : ((j : Int) == x) = true := by simp [hjx]
            have HCH := hd (HA wr _ m2 D r k (c - 1) hMS hrk (by omega) (by omega) (HN2.out.more HS.out) ((HD.out.below HB.out).more HS.out))
            have HK := hd (show kidF x r j = fromB r by unfold kidF; rw [if_pos hjx])
            clear hnm2 hm2 hMS hjx HA
            go_upto_region 12 with (go_at_call 50; refine Calls.mono HCH.out ?_; intro e w3 h3; obtain ⟨r3, A3, k3, c3', o3, hP3, rfl, hb3, hq3⟩ := h3; have HB3 := hd hb3; have HP3 := hd (HK.out.symm ▸ hP3); have HO3 := hd hq3; clear hP3 hb3 hq3 c0 c1 c2 c3 x0 x1 x2 x3 hpc)
            obtain ⟨c3, hc3⟩ : ∃ c3, c3 = c3' := ⟨_, rfl⟩
            subst hc3
            obtain ⟨W4, hW4⟩ : ∃ W4, W4 = w3.alloc (.cells #[.slice A3 k3 c3, .int .i64 o3] 29) := ⟨_, rfl⟩
            rw [← hW4]
            have hb4 : Below w3.heap.size w3 W4 := hW4 ▸ (Below.refl _ _).alloc (Nat.le_refl _) _
            have HB4 := hd (show Below wr.heap.size wr W4 from HB3.out.trans (hb4.mono HB3.out.size))
            have HQ4 := hd (show W4.heap[w3.heap.size]? = some (.cells #[.slice A3 k3 c3, .int .i64 o3] 29 (0, 0)) from hW4 ▸ heap_alloc_new _ _)
            have HX4 := hd (keepBlk HX.out HB4.out)
            have HY4 := hd (keepBlk HY.out HB4.out)
            have HP4 := hd ((HB4.out.cell (cell_in HPC.out)).trans HPC.out)
            have HO4 := hd (show ∀ q, r3 = some q → k3 = q.length ∧ OwnI W4 wr.heap.size (.slice A3 k3 c3) q.reverse ∧ o3 = 0 from fun q hq => by
              obtain ⟨h1, h2, h3⟩ := HO3.out q hq
              exact ⟨h1, h2.below hb4, h3⟩)
            clear hW4 hb4 HO3
            obtain ⟨q0, q1, q2, q3⟩ := blk2 HQ4.out
            have hlx := lt_of_block HY.out
            cases r3 with
            | none =>
              have HN' := hd (show ∀ (j' : Nat) (m : NT), x ≤ (j' : Int) → j' < j + 1 → ks[j']? = some m → FirstIs m (kidF x r j') none from fun j' m h1 h2 h3 => by
                by_cases e : j' = j
                · subst e
                  rw [HM2.out] at h3
                  injection h3 with h3
                  rw [← h3]; exact HP3.out
                · exact HN.out j' m h1 (by omega) h3)
              clear HO4 q0 q1 q2 q3
              go_wp2
              go_roundw
              case rel => exact ⟨j + 1, by first | go_num | rfl, by omega, hd (HB.out.trans (HB4.out.mono HS.out)), HX4, HY4, HP4, HN'⟩
              case measure => first | (simp [intOf]; done) | (simp [intOf]; omega)
            | some q =>
              obtain ⟨e1, ho, e3⟩ := HO4.out q rfl
              have hq := leafB_short HP3.out.1
              have hms := HMS.out
              have h4 := HB4.out.size
              have h5 := lt_of_block HQ4.out
              have HU := hd (under_any wr.heap.size A3 q.reverse (j : Int) o3 k3 c3 W4 (by simp [e1]) (by omega) ho (by omega))
              have HE1 := hd e1
              have HE3 := hd e3
              clear ho e1 e3 hq hms
              go_wp2_with (go_at_call 63; refine HU.out.mono ?_; rintro e w5 ⟨A5, n5, c5, e5, rfl, ho5, hb5⟩; have HY5 := hd ((hb5.block (w.heap.size + 1) (by omega)).trans HY4.out); have HB5 := hd hb5; have HO5 := hd ho5; have HE5 := hd e5; clear hb5 ho5 e5 q0 q1 q2 q3; obtain ⟨y0, y1, k0, k1⟩ := blk2 HY5.out)
              have hY6 := blk2_both HY5.out (.slice A5 n5 c5) (.int .i64 o3)
              obtain ⟨z0, z1, _, _⟩ := blk2 hY6
              have ho6 := (HO5.out.pt (x := .slice A5 n5 c5) (y := .int .i64 o3) HY5.out).2
              clear y0 y1 k0 k1
              refine bodyPost_ret (v := .tuple #[.agg #[.slice A5 n5 c5, .int .i64 o3], .bool true]) (by simp [results, Try.results50, go_sem, z0, z1]) rfl ⟨some ((j : Int) :: q), A5, n5, c5, o3, id (from_some hI1 HM2.out HP3.out (fun j' m h1 h2 h3 => HN.out j' m h2 h1 h3)), rfl, ?_, fun q' hq' => ?_⟩
              · have hb9 : Below w.heap.size w W4 := HB.out.trans (HB4.out.mono HS.out)
                exact ((hb9.trans (HB5.out.mono HS.out)).setCell (by show _ ≤ w.heap.size + 1; omega) _).setCell (by show _ ≤ w.heap.size + 1; omega) _
              · injection hq' with hq'
                subst hq'
                refine ⟨by rw [HE5.out]; simp, ?_, HE3.out⟩
                rw [List.reverse_cons]
                exact ho6.weaken HS.out
          · have g1 : ((j : Int) == x) = false := beq_eq_false_iff_ne.2 hjx
            have HCH := hd (HA wr _ m2 none [] 0 0 hMS rfl (by omega) (by omega) (HN2.out.more HS.out) (IL.nil _ _ _))
            have HK := hd (show kidF x r j = fromB [] by unfold kidF; rw [if_neg hjx])
            clear hnm2 hm2 hMS hjx HA
            go_upto_region 12 with (go_at_call 50; refine Calls.mono HCH.out ?_; intro e w3 h3; obtain ⟨r3, A3, k3, c3', o3, hP3, rfl, hb3, hq3⟩ := h3; have HB3 := hd hb3; have HP3 := hd (HK.out.symm ▸ hP3); have HO3 := hd hq3; clear hP3 hb3 hq3 c0 c1 c2 c3 x0 x1 x2 x3 hpc)
            obtain ⟨c3, hc3⟩ : ∃ c3, c3 = c3' := ⟨_, rfl⟩
            subst hc3
            obtain ⟨W4, hW4⟩ : ∃ W4, W4 = w3.alloc (.cells #[.slice A3 k3 c3, .int .i64 o3] 29) := ⟨_, rfl⟩
            rw [← hW4]
            have hb4 : Below w3.heap.size w3 W4 := hW4 ▸ (Below.refl _ _).alloc (Nat.le_refl _) _
            have HB4 := hd (show Below wr.heap.size wr W4 from HB3.out.trans (hb4.mono HB3.out.size))
            have HQ4 := hd (show W4.heap[w3.heap.size]? = some (.cells #[.slice A3 k3 c3, .int .i64 o3] 29 (0, 0)) from hW4 ▸ heap_alloc_new _ _)
            have HX4 := hd (keepBlk HX.out HB4.out)
            have HY4 := hd (keepBlk HY.out HB4.out)
            have HP4 := hd ((HB4.out.cell (cell_in HPC.out)).trans HPC.out)
            have HO4 := hd (show ∀ q, r3 = some q → k3 = q.length ∧ OwnI W4 wr.heap.size (.slice A3 k3 c3) q.reverse ∧ o3 = 0 from fun q hq => by
              obtain ⟨h1, h2, h3⟩ := HO3.out q hq
              exact ⟨h1, h2.below hb4, h3⟩)
            clear hW4 hb4 HO3
            obtain ⟨q0, q1, q2, q3⟩ := blk2 HQ4.out
            have hlx := lt_of_block HY.out
            cases r3 with
            | none =>
              have HN' := hd (show ∀ (j' : Nat) (m : NT), x ≤ (j' : Int) → j' < j + 1 → ks[j']? = some m → FirstIs m (kidF x r j') none from fun j' m h1 h2 h3 => by
                by_cases e : j' = j
                · subst e
                  rw [HM2.out] at h3
                  injection h3 with h3
                  rw [← h3]; exact HP3.out
                · exact HN.out j' m h1 (by omega) h3)
              clear HO4 q0 q1 q2 q3
              go_wp2
              go_roundw
              case rel => exact ⟨j + 1, by first | go_num | rfl, by omega, hd (HB.out.trans (HB4.out.mono HS.out)), HX4, HY4, HP4, HN'⟩
              case measure => first | (simp [intOf]; done) | (simp [intOf]; omega)
            | some q =>
              obtain ⟨e1, ho, e3⟩ := HO4.out q rfl
              have hq := leafB_short HP3.out.1
              have hms := HMS.out
              have h4 := HB4.out.size
              have h5 := lt_of_block HQ4.out
              have HU := hd (under_any wr.heap.size A3 q.reverse (j : Int) o3 k3 c3 W4 (by simp [e1]) (by omega) ho (by omega))
              have HE1 := hd e1
              have HE3 := hd e3
              clear ho e1 e3 hq hms
              go_wp2_with (go_at_call 63; refine HU.out.mono ?_; rintro e w5 ⟨A5, n5, c5, e5, rfl, ho5, hb5⟩; have HY5 := hd ((hb5.block (w.heap.size + 1) (by omega)).trans HY4.out); have HB5 := hd hb5; have HO5 := hd ho5; have HE5 := hd e5; clear hb5 ho5 e5 q0 q1 q2 q3; obtain ⟨y0, y1, k0, k1⟩ := blk2 HY5.out)
              have hY6 := blk2_both HY5.out (.slice A5 n5 c5) (.int .i64 o3)
              obtain ⟨z0, z1, _, _⟩ := blk2 hY6
              have ho6 := (HO5.out.pt (x := .slice A5 n5 c5) (y := .int .i64 o3) HY5.out).2
              clear y0 y1 k0 k1
              refine bodyPost_ret (v := .tuple #[.agg #[.slice A5 n5 c5, .int .i64 o3], .bool true]) (by simp [results, Try.results50, go_sem, z0, z1]) rfl ⟨some ((j : Int) :: q), A5, n5, c5, o3, id (from_some hI1 HM2.out HP3.out (fun j' m h1 h2 h3 => HN.out j' m h2 h1 h3)), rfl, ?_, fun q' hq' => ?_⟩
              · have hb9 : Below w.heap.size w W4 := HB.out.trans (HB4.out.mono HS.out)
                exact ((hb9.trans (HB5.out.mono HS.out)).setCell (by show _ ≤ w.heap.size + 1; omega) _).setCell (by show _ ≤ w.heap.size + 1; omega) _
              · injection hq' with hq'
                subst hq'
                refine ⟨by rw [HE5.out]; simp, ?_, HE3.out⟩
                rw [List.reverse_cons]
                exact ho6.weaken HS.out
        · have HF := hd (id (from_none (n := .mk lf ps tx ks) (x := x) (r := r) fun j' m h1 h2 => HN.out j' m h1 (by have := (List.getElem?_eq_some_iff.1 h2).1; simp only [NT.ks] at this; omega) h2))
          obtain ⟨y0, y1, k0, k1⟩ := blk2 HY.out
          clear HN HA
          go_wp2
          have hY6 := blk2_both HY.out (.slice none 0 0) (.int .i64 0)
          obtain ⟨z0, z1, _, _⟩ := blk2 hY6
          clear y0 y1 k0 k1
          refine bodyPost_ret (v := .tuple #[.agg #[.slice none 0 0, .int .i64 0], .bool false]) (by simp [results, Try.results50, go_sem, z0, z1]) rfl ⟨none, none, 0, 0, 0, HF.out, rfl, (HB.out.setCell (by show _ ≤ w.heap.size + 1; omega) _).setCell (by show _ ≤ w.heap.size + 1; omega) _, fun q h => by cases h⟩
    · obtain ⟨xn, rfl⟩ : ∃ xn : Nat, x = (xn : Int) := ⟨x.toNat, by omega⟩
      go_enter Try.func50, Try.ntmps50
      go_upto_region 5 with (fail)
      rw [← HW.out]
      go_upto_region 6 with (fail)
      clear x0 x1 x2 x3 y0 y1 k0 k1 hc1
      go_loopw [6] (fun i wr => ∃ I : Nat, i = .int .i64 (I : Int) ∧ (xn : Int) ≤ (I : Int) ∧ Hid (Below w.heap.size w wr) ∧ Hid (wr.heap[w.heap.size]? = some (.cells #[.bool lf, .slice PA ps.length pc, .slice TA tx.length tc, .slice KA ks.length kc] 26 (0, 0))) ∧ Hid (wr.heap[w.heap.size + 1]? = some (.cells #[.slice none 0 0, .int .i64 0] 29 (0, 0))) ∧
        Hid (wr.cell? ⟨b, o, none⟩ = some (.int .i64 (xn : Int))) ∧ Hid (∀ (j : Nat) (m : NT), (xn : Int) ≤ (j : Int) → j < I → ks[j]? = some m → FirstIs m (kidF (xn : Int) r j) none)) (fun i _ => ks.length - (intOf i).toNat)
      case atStart => exact ⟨xn, by first | rfl | simp, by omega, hd HBS.out, hd HXS.out, hd HYS.out, hd HPS.out, hd (fun j m h1 h2 h3 => by omega)⟩
      case round =>
        obtain ⟨j, rfl, hI1, HB, HX, HY, HPC, HN⟩ := hrel
        obtain ⟨x0, x1, x2, x3, _, _, _, _⟩ := blkCells HX.out
        by_cases hj : j < ks.length
        · obtain ⟨m2, b', o', lf2, PA2, np2, pc2, TA2, nt2, tc2, KA2, nk2, kc2, hm2, rfl, hbg2, hnm2, c0, c1, c2, c3⟩ := (HKS.out.below HB.out).at_ hj
          have HN2 := hd hnm2
          have HM2 := hd hm2
          have hpc := HPC.out
          have hMS : sizeT m2 ≤ 1048576 := by have h1 := sizeT_kid HM2.out; have h2 := HM.out; rw [sizeT] at h2; omega
          have HMS := hd hMS
          have HS := hd HB.out.size
          by_cases hjx : (j : Int) = (xn : Int)
          · have g1 : ((j : Int) == (xn : Int)) = true := by simp [hjx]
            have HCH := hd (HA wr _ m2 D r k (c - 1) hMS hrk (by omega) (by omega) (HN2.out.more HS.out) ((HD.out.below HB.out).more HS.out))
            have HK := hd (show kidF (xn : Int) r j = fromB r by unfold kidF; rw [if_pos hjx])
            clear hnm2 hm2 hMS hjx HA
            go_upto_region 12 with (go_at_call 50; refine Calls.mono HCH.out ?_; intro e w3 h3; obtain ⟨r3, A3, k3, c3', o3, hP3, rfl, hb3, hq3⟩ := h3; have HB3 := hd hb3; have HP3 := hd (HK.out.symm ▸ hP3); have HO3 := hd hq3; clear hP3 hb3 hq3 c0 c1 c2 c3 x0 x1 x2 x3 hpc)
            obtain ⟨c3, hc3⟩ : ∃ c3, c3 = c3' := ⟨_, rfl⟩
            subst hc3
            obtain ⟨W4, hW4⟩ : ∃ W4, W4 = w3.alloc (.cells #[.slice A3 k3 c3, .int .i64 o3] 29) := ⟨_, rfl⟩
            rw [← hW4]
            have hb4 : Below w3.heap.size w3 W4 := hW4 ▸ (Below.refl _ _).alloc (Nat.le_refl _) _
            have HB4 := hd (show Below wr.heap.size wr W4 from HB3.out.trans (hb4.mono HB3.out.size))
            have HQ4 := hd (show W4.heap[w3.heap.size]? = some (.cells #[.slice A3 k3 c3, .int .i64 o3] 29 (0, 0)) from hW4 ▸ heap_alloc_new _ _)
            have HX4 := hd (keepBlk HX.out HB4.out)
            have HY4 := hd (keepBlk HY.out HB4.out)
            have HP4 := hd ((HB4.out.cell (cell_in HPC.out)).trans HPC.out)
            have HO4 := hd (show ∀ q, r3 = some q → k3 = q.length ∧ OwnI W4 wr.heap.size (.slice A3 k3 c3) q.reverse ∧ o3 = 0 from fun q hq => by
              obtain ⟨h1, h2, h3⟩ := HO3.out q hq
              exact ⟨h1, h2.below hb4, h3⟩)
            clear hW4 hb4 HO3
            obtain ⟨q0, q1, q2, q3⟩ := blk2 HQ4.out
            have hlx := lt_of_block HY.out
            cases r3 with
            | none =>
              have HN' := hd (show ∀ (j' : Nat) (m : NT), (xn : Int) ≤ (j' : Int) → j' < j + 1 → ks[j']? = some m → FirstIs m (kidF (xn : Int) r j') none from fun j' m h1 h2 h3 => by
                by_cases e : j' = j
                · subst e
                  rw [HM2.out] at h3
                  injection h3 with h3
                  rw [← h3]; exact HP3.out
                · exact HN.out j' m h1 (by omega) h3)
              clear HO4 q0 q1 q2 q3
              go_wp2
              go_roundw
              case rel => exact ⟨j + 1, by first | go_num | rfl, by omega, hd (HB.out.trans (HB4.out.mono HS.out)), HX4, HY4, HP4, HN'⟩
              case measure => first | (simp [intOf]; done) | (simp [intOf]; omega)
            | some q =>
              obtain ⟨e1, ho, e3⟩ := HO4.out q rfl
              have hq := leafB_short HP3.out.1
              have hms := HMS.out
              have h4 := HB4.out.size
              have h5 := lt_of_block HQ4.out
              have HU := hd (under_any wr.heap.size A3 q.reverse (j : Int) o3 k3 c3 W4 (by simp [e1]) (by omega) ho (by omega))
              have HE1 := hd e1
              have HE3 := hd e3
              clear ho e1 e3 hq hms
              go_wp2_with (go_at_call 63; refine HU.out.mono ?_; rintro e w5 ⟨A5, n5, c5, e5, rfl, ho5, hb5⟩; have HY5 := hd ((hb5.block (w.heap.size + 1) (by omega)).trans HY4.out); have HB5 := hd hb5; have HO5 := hd ho5; have HE5 := hd e5; clear hb5 ho5 e5 q0 q1 q2 q3; obtain ⟨y0, y1, k0, k1⟩ := blk2 HY5.out)
              have hY6 := blk2_both HY5.out (.slice A5 n5 c5) (.int .i64 o3)
              obtain ⟨z0, z1, _, _⟩ := blk2 hY6
              have ho6 := (HO5.out.pt (x := .slice A5 n5 c5) (y := .int .i64 o3) HY5.out).2
              clear y0 y1 k0 k1
              refine bodyPost_ret (v := .tuple #[.agg #[.slice A5 n5 c5, .int .i64 o3], .bool true]) (by simp [results, Try.results50, go_sem, z0, z1]) rfl ⟨some ((j : Int) :: q), A5, n5, c5, o3, id (from_some hI1 HM2.out HP3.out (fun j' m h1 h2 h3 => HN.out j' m h2 h1 h3)), rfl, ?_, fun q' hq' => ?_⟩
              · have hb9 : Below w.heap.size w W4 := HB.out.trans (HB4.out.mono HS.out)
                exact ((hb9.trans (HB5.out.mono HS.out)).setCell (by show _ ≤ w.heap.size + 1; omega) _).setCell (by show _ ≤ w.heap.size + 1; omega) _
              · injection hq' with hq'
                subst hq'
                refine ⟨by rw [HE5.out]; simp, ?_, HE3.out⟩
                rw [List.reverse_cons]
                exact ho6.weaken HS.out
          · have g1 : ((j : Int) == (xn : Int)) = false := beq_eq_false_iff_ne.2 hjx
            have HCH := hd (HA wr _ m2 none [] 0 0 hMS rfl (by omega) (by omega) (HN2.out.more HS.out) (IL.nil _ _ _))
            have HK := hd (show kidF (xn : Int) r j = fromB [] by unfold kidF; rw [if_neg hjx])
            clear hnm2 hm2 hMS hjx HA
            go_upto_region 12 with (go_at_call 50; refine Calls.mono HCH.out ?_; intro e w3 h3; obtain ⟨r3, A3, k3, c3', o3, hP3, rfl, hb3, hq3⟩ := h3; have HB3 := hd hb3; have HP3 := hd (HK.out.symm ▸ hP3); have HO3 := hd hq3; clear hP3 hb3 hq3 c0 c1 c2 c3 x0 x1 x2 x3 hpc)
            obtain ⟨c3, hc3⟩ : ∃ c3, c3 = c3' := ⟨_, rfl⟩
            subst hc3
            obtain ⟨W4, hW4⟩ : ∃ W4, W4 = w3.alloc (.cells #[.slice A3 k3 c3, .int .i64 o3] 29) := ⟨_, rfl⟩
            rw [← hW4]
            have hb4 : Below w3.heap.size w3 W4 := hW4 ▸ (Below.refl _ _).alloc (Nat.le_refl _) _
            have HB4 := hd (show Below wr.heap.size wr W4 from HB3.out.trans (hb4.mono HB3.out.size))
            have HQ4 := hd (show W4.heap[w3.heap.size]? = some (.cells #[.slice A3 k3 c3, .int .i64 o3] 29 (0, 0)) from hW4 ▸ heap_alloc_new _ _)
            have HX4 := hd (keepBlk HX.out HB4.out)
            have HY4 := hd (keepBlk HY.out HB4.out)
            have HP4 := hd ((HB4.out.cell (cell_in HPC.out)).trans HPC.out)
            have HO4 := hd (show ∀ q, r3 = some q → k3 = q.length ∧ OwnI W4 wr.heap.size (.slice A3 k3 c3) q.reverse ∧ o3 = 0 from fun q hq => by
              obtain ⟨h1, h2, h3⟩ := HO3.out q hq
              exact ⟨h1, h2.below hb4, h3⟩)
            clear hW4 hb4 HO3
            obtain ⟨q0, q1, q2, q3⟩ := blk2 HQ4.out
            have hlx := lt_of_block HY.out
            cases r3 with
            | none =>
              have HN' := hd (show ∀ (j' : Nat) (m : NT), (xn : Int) ≤ (j' : Int) → j' < j + 1 → ks[j']? = some m → FirstIs m (kidF (xn : Int) r j') none from fun j' m h1 h2 h3 => by
                by_cases e : j' = j
                · subst e
                  rw [HM2.out] at h3
                  injection h3 with h3
                  rw [← h3]; exact HP3.out
                · exact HN.out j' m h1 (by omega) h3)
              clear HO4 q0 q1 q2 q3
              go_wp2
              go_roundw
              case rel => exact ⟨j + 1, by first | go_num | rfl, by omega, hd (HB.out.trans (HB4.out.mono HS.out)), HX4, HY4, HP4, HN'⟩
              case measure => first | (simp [intOf]; done) | (simp [intOf]; omega)
            | some q =>
              obtain ⟨e1, ho, e3⟩ := HO4.out q rfl
              have hq := leafB_short HP3.out.1
              have hms := HMS.out
              have h4 := HB4.out.size
              have h5 := lt_of_block HQ4.out
              have HU := hd (under_any wr.heap.size A3 q.reverse (j : Int) o3 k3 c3 W4 (by simp [e1]) (by omega) ho (by omega))
              have HE1 := hd e1
              have HE3 := hd e3
              clear ho e1 e3 hq hms
              go_wp2_with (go_at_call 63; refine HU.out.mono ?_; rintro e w5 ⟨A5, n5, c5, e5, rfl, ho5, hb5⟩; have HY5 := hd ((hb5.block (w.heap.size + 1) (by omega)).trans HY4.out); have HB5 := hd hb5; have HO5 := hd ho5; have HE5 := hd e5; clear hb5 ho5 e5 q0 q1 q2 q3; obtain ⟨y0, y1, k0, k1⟩ := blk2 HY5.out)
              have hY6 := blk2_both HY5.out (.slice A5 n5 c5) (.int .i64 o3)
              obtain ⟨z0, z1, _, _⟩ := blk2 hY6
              have ho6 := (HO5.out.pt (x := .slice A5 n5 c5) (y := .int .i64 o3) HY5.out).2
              clear y0 y1 k0 k1
              refine bodyPost_ret (v := .tuple #[.agg #[.slice A5 n5 c5, .int .i64 o3], .bool true]) (by simp [results, Try.results50, go_sem, z0, z1]) rfl ⟨some ((j : Int) :: q), A5, n5, c5, o3, id (from_some hI1 HM2.out HP3.out (fun j' m h1 h2 h3 => HN.out j' m h2 h1 h3)), rfl, ?_, fun q' hq' => ?_⟩
              · have hb9 : Below w.heap.size w W4 := HB.out.trans (HB4.out.mono HS.out)
                exact ((hb9.trans (HB5.out.mono HS.out)).setCell (by show _ ≤ w.heap.size + 1; omega) _).setCell (by show _ ≤ w.heap.size + 1; omega) _
              · injection hq' with hq'
                subst hq'
                refine ⟨by rw [HE5.out]; simp, ?_, HE3.out⟩
                rw [List.reverse_cons]
                exact ho6.weaken HS.out
        · have HF := hd (id (from_none (n := .mk lf ps tx ks) (x := (xn : Int)) (r := r) fun j' m h1 h2 => HN.out j' m h1 (by have := (List.getElem?_eq_some_iff.1 h2).1; simp only [NT.ks] at this; omega) h2))
          obtain ⟨y0, y1, k0, k1⟩ := blk2 HY.out
          clear HN HA
          go_wp2
          have hY6 := blk2_both HY.out (.slice none 0 0) (.int .i64 0)
          obtain ⟨z0, z1, _, _⟩ := blk2 hY6
          clear y0 y1 k0 k1
          refine bodyPost_ret (v := .tuple #[.agg #[.slice none 0 0, .int .i64 0], .bool false]) (by simp [results, Try.results50, go_sem, z0, z1]) rfl ⟨none, none, 0, 0, 0, HF.out, rfl, (HB.out.setCell (by show _ ≤ w.heap.size + 1; omega) _).setCell (by show _ ≤ w.heap.size + 1; omega) _, fun q h => by cases h⟩

set_option maxRecDepth 4000 in
theorem first_any : ∀ d, FirstC d
  | 0 => fun _ _ _ _ _ _ _ _ _ _ _ hn _ => hn.elim
  | d + 1 => first_step d (first_any d)

end Go.Proofs.Ytjolmnghoigggaa
