/- The document's With, and its paths. -/
import Derived.Test.YtggapngibkeodaaTPth
namespace Go.Proofs.Ytggapngibkeodaa
open Go.RowKit
open Go.WideShapes (add_plain)

theorem il_vl {w : World} {B : Nat} {A : Option Addr} {l : List Int} (h : IL w B A l) : VL w B A (l.map (Value.int .i64)) := fun hn => by
  obtain ⟨b, o, e, hb, hc⟩ := h (by rintro rfl; exact hn rfl)
  refine ⟨b, o, e, hb, fun k u hu => ?_⟩
  have hk : k < l.length := by have := (List.getElem?_eq_some_iff.1 hu).1; simpa using this
  rw [hc k hk, ← hu]
  simp [iAt_eq l k hk, hk]
theorem ints_one (l : List Int) : ∀ u ∈ l.map (Value.int .i64), u.oneCell' = true := fun u hu => by
  obtain ⟨x, _, rfl⟩ := List.mem_map.1 hu
  rfl
theorem OwnI.il_at {w w' : World} {e n c : Nat} {A : Option Addr} {l : List Int} (h : OwnI w e (.slice A n c) l) (hb : Below w.heap.size w w') : IL w' w'.heap.size A l := by
  obtain ⟨A', c', e1, _, _, h1⟩ := (h.below hb).open_
  injection e1 with e1 _ _
  rw [e1]; exact h1

theorem icopy_big (A : Option Addr) (l : List Int) (n c : Nat) (w : World) (hn : l.length = n) (hl : n ≤ 2000000) (hp : IL w w.heap.size A l) :
    Calls Try.prog 64 #[.slice A n c] w (NewP w l) := by
  have HP := hd hp
  have HN := hd hn
  clear hp hn
  go_enter Try.func64, Try.ntmps64
  go_wp2_with (at_builtin; refine wpList_append_G0 intG w rfl _ _ rfl w.heap.size rfl A n c w.heap.size (l.map (Value.int .i64)) rfl (by rw [List.length_map, HN.out]; omega) (il_vl HP.out) (ints_one l) (by unfold maxLen; omega) (by omega) (Nat.le_refl _) ?_; intro A' c' w1 ho1 hb1 _; have HO1 := hd (OwnI.of_own ho1 HN.out.symm); have HB1 := hd hb1; clear ho1 hb1)
  go_ret
  exact ⟨_, rfl, HO1.out, HB1.out⟩

set_option maxHeartbeats 2000000 in
theorem rwith_any (A : Option Addr) (l : List Int) (n c : Nat) (i : Int) (g : Nat) (w : World) (hn : l.length = n) (hl : n ≤ 2000000) (hp : IL w w.heap.size A l) (hg : g < w.heap.size) (hc : w.cell? ⟨g, 0, none⟩ = some (.int .i64 i)) :
    Calls Try.prog 66 #[.slice A n c, .slice (some ⟨g, 0, none⟩) 1 1] w (NewP w (l ++ [i])) := by
  have HC := hd (icopy_big A l n c w hn hl hp)
  have HN := hd hn
  have HI := hd (show VL w w.heap.size (some ⟨g, 0, none⟩) [.int .i64 i] from fun _ => ⟨g, 0, rfl, hg, fun k u hu => by
    match k, hu with
    | 0, hu => simp at hu; subst hu; exact hc
    | k + 1, hu => simp at hu⟩)
  clear hp hn hc
  go_enter Try.func66, Try.ntmps66
  go_wp2_with (first
    | (at_builtin; go_loud (refine wpList_append_GX intG _ rfl (.tmp 6) (.tmp 7) rfl w.heap.size (.slice A1 n c1) n (l.map (Value.int .i64)) rfl HO1.out (some ⟨g, 0, none⟩) 1 1 w.heap.size [.int .i64 i] rfl rfl (HI.out.below HB1.out) (by simp [Value.oneCell']) (by unfold maxLen; omega) (by omega) HB1.out.size ?_; intro A2 c2 w2 ho2 hg2 _; have HO2 := hd (OwnI.join (r := [i]) HN.out.symm rfl ho2); have HB2 := hd (HB1.out.grown hg2 HB1.out.size (fun j hj => (HO1.out.lt j hj).1)); clear ho2 hg2))
    | (go_at_call 64; refine HC.out.mono ?_; rintro e w1 ⟨v1, rfl, ho1, hb1⟩; obtain ⟨A1, c1, rfl, _, _⟩ := ho1.open_at n HN.out; have HO1 := hd (show w1.ownsRow w.heap.size 3 1 (.slice A1 n c1) n (l.map (Value.int .i64)) by have := ho1.own; rwa [HN.out] at this); have HB1 := hd hb1; clear ho1 hb1))
  go_ret
  exact ⟨_, rfl, HO2.out, HB2.out⟩

theorem cell_new_drew (w : World) (x : Value) (t : TypeId) {g : Nat} (hg : g = w.heap.size) : ((w.alloc (.cells #[x] t)).drew).cell? ⟨g, 0, none⟩ = some x := by
  subst hg
  show (w.alloc (.cells #[x] t)).cell? _ = _
  rw [World.cell?_alloc_at _ _ _ _ rfl]; rfl
theorem two_new (w : World) (o : Obj) (x : Value) (t : TypeId) : VL ((w.alloc o).alloc (.cells #[x] t)) (w.heap.size + 2) (some ⟨w.heap.size + 1, 0, none⟩) [x] := by
  have := VL_new (w.alloc o) t [x]
  rw [show (w.alloc o).heap.size = w.heap.size + 1 by simp] at this
  exact this
theorem one_own {w : World} {e : Nat} {u0 : Value} {q : List Int} (h : OwnI w e u0 q) : ∀ k u, [u0][k]? = some u → OwnI w e u (lAt [q] k) := fun k u hu => by
  match k, hu with
  | 0, hu => simp at hu; subst hu; exact h
  | k + 1, hu => simp at hu
/-- A new row of paths. -/
def NewQ (e : Nat) (L : List (List Int)) (w : World) (en : Ending) (w' : World) : Prop :=
  ∃ A c, en = .returned (.slice A L.length c) ∧ OwnQ w' w.heap.size e (.slice A L.length c) L ∧ Below w.heap.size w w'

set_option maxRecDepth 100000 in
set_option maxHeartbeats 8000000 in
theorem rpaths_false :
    ∀ (d : Nat) (w : World) (v : Value) (n : NT) (A : Option Addr) (q : List Int) (lq c e : Nat), q.length = lq → lq + sizeT n ≤ 1900000 → NodeAt d w w.heap.size v n → OwnI w e (.slice A lq c) q → e ≤ w.heap.size →
      Calls Try.prog 51 #[v, .slice A lq c, .bool false] w (NewQ e (pathsN false n q) w) := by
  intro d0
  induction d0 with
  | zero => intro w v n A q lq c e _ _ h; exact h.elim
  | succ d ih =>
    intro w v n A q lq c e hlq hsz0 hn hoq0 he
    obtain ⟨d', lf, ps, tx, ks, PA, pc, TA, tc, KA, kc, hd', rfl, rfl, hp, ht, hf, hks⟩ := hn.open_
    obtain rfl : d = d' := by omega
    have hsk : lq + sizeK ks ≤ 1899999 := by rw [sizeT] at hsz0; omega
    have hl3 := hf.2.2.2.1
    have HKS := hd hks
    have HIH := hd ih
    have HOQ := hd hoq0
    have HLQ := hd hlq
    have HBW := hd (alloc_below w (.cells #[.bool lf, .slice PA ps.length pc, .slice TA tx.length tc, .slice KA ks.length kc] 26))
    clear hn hp ht hf hks hd' ih hoq0 hlq hsz0
    cases lf
    · have HPN := hd (show pathsN false (.mk false ps tx ks) q = [q] ++ pathsK false ks 0 q by rw [pathsN]; rfl)
      go_enter Try.func51, Try.ntmps51
      go_wp2_with (at_builtin; refine wpList_append_G0 rowG _ rfl (.tmp 16) (.tmp 18) rfl w.heap.size rfl (some ⟨w.heap.size + 1, 0, none⟩) 1 1 (w.heap.size + 2) [.slice A lq c] rfl rfl (two_new w _ _ _) (by simp [Value.oneCell']) (by unfold maxLen; omega) (by omega) (by simp <;> omega) ?_; intro A0 c0 w0 hown0 hb0 _; have hbw0 : Below w.heap.size w w0 := (((Below.refl _ _).alloc (Nat.le_refl _) _).alloc (by simp) _).trans (hb0.mono (by simp <;> omega)); have HW0 := hd hbw0; have HQ0 := hd (show OwnQ w0 w.heap.size e (.slice A0 1 c0) [q] from ⟨[.slice A lq c], rfl, hown0, one_own (HOQ.out.below hbw0)⟩); obtain ⟨z0, z1, z2, z3, -⟩ := blkCells (keepBlk ((Below.heap_alloc _ _ _ (by simp)).trans (heap_alloc_new w _)) hb0); clear hown0 hb0 hbw0)
      go_loopw [7, 23] (fun v i wr => ∃ (k nl : Nat) (A7 : Option Addr) (c7 : Nat), k ≤ ks.length ∧ v = .slice A7 nl c7 ∧ i = .int .i64 k ∧ nl ≤ 2000000 ∧ Hid (Below w.heap.size w wr ∧ nl = ([q] ++ pathsK false (ks.take k) 0 q).length ∧ OwnQ wr w.heap.size e (.slice A7 nl c7) ([q] ++ pathsK false (ks.take k) 0 q))) (fun _ i _ => ks.length - (intOf i).toNat)
      case atStart => exact ⟨0, 1, A0, c0, Nat.zero_le _, rfl, rfl, by omega, ⟨HW0.out, by simp [pathsK], by simpa [pathsK] using HQ0.out⟩⟩
      case round =>
        obtain ⟨k, nl, A7, c7, hk, rfl, rfl, hnl2, HR⟩ := hrel
        have hbr := HR.out.1
        have hsz := hbr.size
        by_cases hlt : k < ks.length
        · obtain ⟨m, b, o, lf1, PA1, np1, pc1, TA1, nt1, tc1, KA1, nk1, kc1, hm, rfl, hbg, hnm, x0, x1, x2, x3⟩ := (HKS.out.below hbr).at_ hlt
          have hsm := sizeT_kid hm
          obtain ⟨W0, hW0⟩ : ∃ W0, W0 = wr.alloc (.cells #[.bool lf1, .slice PA1 np1 pc1, .slice TA1 nt1 tc1, .slice KA1 nk1 kc1] 26) := ⟨_, rfl⟩
          have hb0 : Below wr.heap.size wr W0 := hW0 ▸ alloc_below wr _
          have hbox0 : W0.heap[wr.heap.size]? = some (.cells #[.bool lf1, .slice PA1 np1 pc1, .slice TA1 nt1 tc1, .slice KA1 nk1 kc1] 26 (0, 0)) := hW0 ▸ heap_alloc_new wr _
          have hs0 : W0.heap.size = wr.heap.size + 1 := by rw [hW0]; simp
          have hoq : OwnI W0 e (.slice A lq c) q := HOQ.out.below (hbr.trans (hb0.mono hsz))
          have hrow : OwnQ W0 w.heap.size e (.slice A7 nl c7) ([q] ++ pathsK false (ks.take k) 0 q) := HR.out.2.2.below hb0
          have HM := hd hm
          have HNM := hd ((hnm.more hsz).later hb0)
          have HOW := hd hoq
          have HRW := hd hrow
          have HNL := hd HR.out.2.1
          have HB0 := hd (hbr.trans (hb0.mono hsz))
          have HBX := hd hbox0
          have HS0 := hd hs0
          obtain ⟨y0, y1, y2, y3, -⟩ := blkCells hbox0
          clear hnm hm hbr hb0 hbox0 hs0 hoq hrow
          subst hW0
          go_wp2_with fail
          go_region_law (first
            | (refine step_append_GX rowG _ rfl (.tmp 28) (.tmp 35) rfl w.heap.size (.slice A7 nl c7) nl vs rfl (ownsRow_below HV2.out HBA.out) A2 n2 c2 w2.heap.size ms rfl HM0.out HVL.out HCE.out (by unfold maxLen; omega) (by omega) (by omega) ?_; intro A3 c3 w3 hown3 hgrow3 hat3; have HQ3 := hd (OwnQ.join HV1.out (ownsRow_below HV2.out HBA.out) (fun k u hu => (HV3.out k u hu).below HBA.out) HM1.out HM3.out HNL.out HN2.out hown3 hgrow3); have HB3 := hd (HB2.out.grown hgrow3 (by omega) (fun j hj => (HRW.out.lt hj).1)); clear hown3 hgrow3 hat3)
            | ((go_simp; go_at_call 51; go_loud (refine Calls.mono (HIH.out w1 _ m A1 (q ++ [(k : Int)]) (lq + 1) c1 e HL1.out (by omega) (HNM.out.later HB1.out) HO1.out (by omega)) ?_; intro en w2 h2; obtain ⟨A2, c2, rfl, hq2, hb2⟩ := h2; obtain ⟨ms, hm1, hm2, hm3⟩ := hq2; obtain ⟨vs, hv1, hv2, hv3⟩ := HRW.out; rw [← HNL.out] at hv2; obtain ⟨n2, hn2⟩ : ∃ n2, n2 = (pathsN false m (q ++ [(k : Int)])).length := ⟨_, rfl⟩; have hn3 := pathsN_len false m (q ++ [(k : Int)]); rw [← hn2] at hm1 hm2 hn3; rw [← hn2]; have HV1 := hd hv1; have HV2 := hd hv2; have HV3 := hd hv3; have HBA := hd (HB1.out.trans (hb2.mono HB1.out.size)); have HM1 := hd (hm1.trans hn2); have HM3 := hd hm3; have HVL := hd (own_vl hm2); have HM0 := hd (show ms.length = n2 * 1 by omega); have HCE := hd (own_cells (L := pathsN false m (q ++ [(k : Int)])) (hm1.trans hn2) hm3); have HN2 := hd hn2; have HB2 := hd (HB0.out.trans ((HB1.out.trans (hb2.mono HB1.out.size)).mono HB0.out.size)); have hz2 := hb2.size; have hz1 := HB1.out.size; have hz0 := HB0.out.size; clear hm1 hm2 hm3 hv1 hv2 hv3 hn2 hb2)))
            | ((go_simp; go_at_call 66; refine Calls.mono (rwith_any A q lq c (k : Int) _ _ HLQ.out (by omega) (HOW.out.il_at ?hh) (by simp) (cell_new_drew _ _ _ (by simp))) ?_; (case hh => exact ((Below.refl _ _).alloc (Nat.le_refl _) _).drew); intro en w1 h1; obtain ⟨v1, rfl, ho1, hb1⟩ := h1; obtain ⟨A1, c1, rfl, _, _⟩ := ho1.open_at (lq + 1) (by rw [List.length_append, HLQ.out]; rfl); have hbw : Below (wr.alloc (.cells #[.bool lf1, .slice PA1 np1 pc1, .slice TA1 nt1 tc1, .slice KA1 nk1 kc1] 26)).heap.size (wr.alloc (.cells #[.bool lf1, .slice PA1 np1 pc1, .slice TA1 nt1 tc1, .slice KA1 nk1 kc1] 26)) w1 := (((Below.refl _ _).alloc (Nat.le_refl _) _).drew.trans (hb1.mono (by simp))); have HB1 := hd hbw; have hz1 := hbw.size; rw [HS0.out] at hz1; have HO1 := hd (ho1.weaken (b' := e) (by simp <;> omega)); have HL1 := hd (show (q ++ [(k : Int)]).length = lq + 1 by rw [List.length_append, HLQ.out]; rfl); have hk1 := keepBlk HBX.out hbw; obtain ⟨z0, z1, z2, z3, -⟩ := blkCells hk1; clear hk1 hbw hb1 ho1)))
          all_goals
            have hst := HQ3.out
            rw [List.append_assoc, ← pathsK_step false HM.out q] at hst
            have hle := pathsK_len false (ks.take (k + 1)) 0 q
            have hle2 := sizeK_le_take (ks := ks) (k := k + 1)
            have hlen : nl + n2 = ([q] ++ pathsK false (ks.take (k + 1)) 0 q).length := by
              rw [pathsK_step false HM.out q, ← List.append_assoc, List.length_append, ← HNL.out, ← HN2.out]
            have hnl3 : nl + n2 ≤ 2000000 := by rw [hlen, List.length_append]; simp; omega
            have HNEW := hd (show Below w.heap.size w w3 ∧ nl + n2 = ([q] ++ pathsK false (ks.take (k + 1)) 0 q).length ∧ OwnQ w3 w.heap.size e (.slice A3 (nl + n2) c3) ([q] ++ pathsK false (ks.take (k + 1)) 0 q) from ⟨HB3.out, hlen, hst⟩)
            clear hst hlen hle hle2
            go_wp2_with fail
            go_roundw
            case rel => exact ⟨k + 1, nl + n2, A3, c3, by omega, rfl, by go_num, hnl3, HNEW⟩
            case measure => simp [intOf]; omega
        · obtain rfl : k = ks.length := by omega
          have hfin := HR.out
          rw [List.take_length] at hfin
          have HF := hd hfin
          clear hfin hbr
          go_wp2
          go_ret
          have hnn : (pathsN false (.mk false ps tx ks) q).length = nl := by rw [HPN.out]; exact HF.out.2.1.symm
          exact ⟨A7, c7, by rw [hnn]; rfl, by rw [hnn, HPN.out]; exact HF.out.2.2, HF.out.1⟩
    · have HPN := hd (show pathsN false (.mk true ps tx ks) q = [q] ++ pathsK false ks 0 q by rw [pathsN]; rfl)
      go_enter Try.func51, Try.ntmps51
      go_wp2_with (at_builtin; refine wpList_append_G0 rowG _ rfl (.tmp 16) (.tmp 18) rfl w.heap.size rfl (some ⟨w.heap.size + 1, 0, none⟩) 1 1 (w.heap.size + 2) [.slice A lq c] rfl rfl (two_new w _ _ _) (by simp [Value.oneCell']) (by unfold maxLen; omega) (by omega) (by simp <;> omega) ?_; intro A0 c0 w0 hown0 hb0 _; have hbw0 : Below w.heap.size w w0 := (((Below.refl _ _).alloc (Nat.le_refl _) _).alloc (by simp) _).trans (hb0.mono (by simp <;> omega)); have HW0 := hd hbw0; have HQ0 := hd (show OwnQ w0 w.heap.size e (.slice A0 1 c0) [q] from ⟨[.slice A lq c], rfl, hown0, one_own (HOQ.out.below hbw0)⟩); obtain ⟨z0, z1, z2, z3, -⟩ := blkCells (keepBlk ((Below.heap_alloc _ _ _ (by simp)).trans (heap_alloc_new w _)) hb0); clear hown0 hb0 hbw0)
      go_loopw [7, 23] (fun v i wr => ∃ (k nl : Nat) (A7 : Option Addr) (c7 : Nat), k ≤ ks.length ∧ v = .slice A7 nl c7 ∧ i = .int .i64 k ∧ nl ≤ 2000000 ∧ Hid (Below w.heap.size w wr ∧ nl = ([q] ++ pathsK false (ks.take k) 0 q).length ∧ OwnQ wr w.heap.size e (.slice A7 nl c7) ([q] ++ pathsK false (ks.take k) 0 q))) (fun _ i _ => ks.length - (intOf i).toNat)
      case atStart => exact ⟨0, 1, A0, c0, Nat.zero_le _, rfl, rfl, by omega, ⟨HW0.out, by simp [pathsK], by simpa [pathsK] using HQ0.out⟩⟩
      case round =>
        obtain ⟨k, nl, A7, c7, hk, rfl, rfl, hnl2, HR⟩ := hrel
        have hbr := HR.out.1
        have hsz := hbr.size
        by_cases hlt : k < ks.length
        · obtain ⟨m, b, o, lf1, PA1, np1, pc1, TA1, nt1, tc1, KA1, nk1, kc1, hm, rfl, hbg, hnm, x0, x1, x2, x3⟩ := (HKS.out.below hbr).at_ hlt
          have hsm := sizeT_kid hm
          obtain ⟨W0, hW0⟩ : ∃ W0, W0 = wr.alloc (.cells #[.bool lf1, .slice PA1 np1 pc1, .slice TA1 nt1 tc1, .slice KA1 nk1 kc1] 26) := ⟨_, rfl⟩
          have hb0 : Below wr.heap.size wr W0 := hW0 ▸ alloc_below wr _
          have hbox0 : W0.heap[wr.heap.size]? = some (.cells #[.bool lf1, .slice PA1 np1 pc1, .slice TA1 nt1 tc1, .slice KA1 nk1 kc1] 26 (0, 0)) := hW0 ▸ heap_alloc_new wr _
          have hs0 : W0.heap.size = wr.heap.size + 1 := by rw [hW0]; simp
          have hoq : OwnI W0 e (.slice A lq c) q := HOQ.out.below (hbr.trans (hb0.mono hsz))
          have hrow : OwnQ W0 w.heap.size e (.slice A7 nl c7) ([q] ++ pathsK false (ks.take k) 0 q) := HR.out.2.2.below hb0
          have HM := hd hm
          have HNM := hd ((hnm.more hsz).later hb0)
          have HOW := hd hoq
          have HRW := hd hrow
          have HNL := hd HR.out.2.1
          have HB0 := hd (hbr.trans (hb0.mono hsz))
          have HBX := hd hbox0
          have HS0 := hd hs0
          obtain ⟨y0, y1, y2, y3, -⟩ := blkCells hbox0
          clear hnm hm hbr hb0 hbox0 hs0 hoq hrow
          subst hW0
          go_wp2_with fail
          go_region_law (first
            | (refine step_append_GX rowG _ rfl (.tmp 28) (.tmp 35) rfl w.heap.size (.slice A7 nl c7) nl vs rfl (ownsRow_below HV2.out HBA.out) A2 n2 c2 w2.heap.size ms rfl HM0.out HVL.out HCE.out (by unfold maxLen; omega) (by omega) (by omega) ?_; intro A3 c3 w3 hown3 hgrow3 hat3; have HQ3 := hd (OwnQ.join HV1.out (ownsRow_below HV2.out HBA.out) (fun k u hu => (HV3.out k u hu).below HBA.out) HM1.out HM3.out HNL.out HN2.out hown3 hgrow3); have HB3 := hd (HB2.out.grown hgrow3 (by omega) (fun j hj => (HRW.out.lt hj).1)); clear hown3 hgrow3 hat3)
            | ((go_simp; go_at_call 51; go_loud (refine Calls.mono (HIH.out w1 _ m A1 (q ++ [(k : Int)]) (lq + 1) c1 e HL1.out (by omega) (HNM.out.later HB1.out) HO1.out (by omega)) ?_; intro en w2 h2; obtain ⟨A2, c2, rfl, hq2, hb2⟩ := h2; obtain ⟨ms, hm1, hm2, hm3⟩ := hq2; obtain ⟨vs, hv1, hv2, hv3⟩ := HRW.out; rw [← HNL.out] at hv2; obtain ⟨n2, hn2⟩ : ∃ n2, n2 = (pathsN false m (q ++ [(k : Int)])).length := ⟨_, rfl⟩; have hn3 := pathsN_len false m (q ++ [(k : Int)]); rw [← hn2] at hm1 hm2 hn3; rw [← hn2]; have HV1 := hd hv1; have HV2 := hd hv2; have HV3 := hd hv3; have HBA := hd (HB1.out.trans (hb2.mono HB1.out.size)); have HM1 := hd (hm1.trans hn2); have HM3 := hd hm3; have HVL := hd (own_vl hm2); have HM0 := hd (show ms.length = n2 * 1 by omega); have HCE := hd (own_cells (L := pathsN false m (q ++ [(k : Int)])) (hm1.trans hn2) hm3); have HN2 := hd hn2; have HB2 := hd (HB0.out.trans ((HB1.out.trans (hb2.mono HB1.out.size)).mono HB0.out.size)); have hz2 := hb2.size; have hz1 := HB1.out.size; have hz0 := HB0.out.size; clear hm1 hm2 hm3 hv1 hv2 hv3 hn2 hb2)))
            | ((go_simp; go_at_call 66; refine Calls.mono (rwith_any A q lq c (k : Int) _ _ HLQ.out (by omega) (HOW.out.il_at ?hh) (by simp) (cell_new_drew _ _ _ (by simp))) ?_; (case hh => exact ((Below.refl _ _).alloc (Nat.le_refl _) _).drew); intro en w1 h1; obtain ⟨v1, rfl, ho1, hb1⟩ := h1; obtain ⟨A1, c1, rfl, _, _⟩ := ho1.open_at (lq + 1) (by rw [List.length_append, HLQ.out]; rfl); have hbw : Below (wr.alloc (.cells #[.bool lf1, .slice PA1 np1 pc1, .slice TA1 nt1 tc1, .slice KA1 nk1 kc1] 26)).heap.size (wr.alloc (.cells #[.bool lf1, .slice PA1 np1 pc1, .slice TA1 nt1 tc1, .slice KA1 nk1 kc1] 26)) w1 := (((Below.refl _ _).alloc (Nat.le_refl _) _).drew.trans (hb1.mono (by simp))); have HB1 := hd hbw; have hz1 := hbw.size; rw [HS0.out] at hz1; have HO1 := hd (ho1.weaken (b' := e) (by simp <;> omega)); have HL1 := hd (show (q ++ [(k : Int)]).length = lq + 1 by rw [List.length_append, HLQ.out]; rfl); have hk1 := keepBlk HBX.out hbw; obtain ⟨z0, z1, z2, z3, -⟩ := blkCells hk1; clear hk1 hbw hb1 ho1)))
          all_goals
            have hst := HQ3.out
            rw [List.append_assoc, ← pathsK_step false HM.out q] at hst
            have hle := pathsK_len false (ks.take (k + 1)) 0 q
            have hle2 := sizeK_le_take (ks := ks) (k := k + 1)
            have hlen : nl + n2 = ([q] ++ pathsK false (ks.take (k + 1)) 0 q).length := by
              rw [pathsK_step false HM.out q, ← List.append_assoc, List.length_append, ← HNL.out, ← HN2.out]
            have hnl3 : nl + n2 ≤ 2000000 := by rw [hlen, List.length_append]; simp; omega
            have HNEW := hd (show Below w.heap.size w w3 ∧ nl + n2 = ([q] ++ pathsK false (ks.take (k + 1)) 0 q).length ∧ OwnQ w3 w.heap.size e (.slice A3 (nl + n2) c3) ([q] ++ pathsK false (ks.take (k + 1)) 0 q) from ⟨HB3.out, hlen, hst⟩)
            clear hst hlen hle hle2
            go_wp2_with fail
            go_roundw
            case rel => exact ⟨k + 1, nl + n2, A3, c3, by omega, rfl, by go_num, hnl3, HNEW⟩
            case measure => simp [intOf]; omega
        · obtain rfl : k = ks.length := by omega
          have hfin := HR.out
          rw [List.take_length] at hfin
          have HF := hd hfin
          clear hfin hbr
          go_wp2
          go_ret
          have hnn : (pathsN false (.mk true ps tx ks) q).length = nl := by rw [HPN.out]; exact HF.out.2.1.symm
          exact ⟨A7, c7, by rw [hnn]; rfl, by rw [hnn, HPN.out]; exact HF.out.2.2, HF.out.1⟩

set_option maxRecDepth 100000 in
set_option maxHeartbeats 8000000 in
theorem rpaths_true :
    ∀ (d : Nat) (w : World) (v : Value) (n : NT) (A : Option Addr) (q : List Int) (lq c e : Nat), q.length = lq → lq + sizeT n ≤ 1900000 → NodeAt d w w.heap.size v n → OwnI w e (.slice A lq c) q → e ≤ w.heap.size →
      Calls Try.prog 51 #[v, .slice A lq c, .bool true] w (NewQ e (pathsN true n q) w) := by
  intro d0
  induction d0 with
  | zero => intro w v n A q lq c e _ _ h; exact h.elim
  | succ d ih =>
    intro w v n A q lq c e hlq hsz0 hn hoq0 he
    obtain ⟨d', lf, ps, tx, ks, PA, pc, TA, tc, KA, kc, hd', rfl, rfl, hp, ht, hf, hks⟩ := hn.open_
    obtain rfl : d = d' := by omega
    have hsk : lq + sizeK ks ≤ 1899999 := by rw [sizeT] at hsz0; omega
    have hl3 := hf.2.2.2.1
    have HKS := hd hks
    have HIH := hd ih
    have HOQ := hd hoq0
    have HLQ := hd hlq
    have HBW := hd (alloc_below w (.cells #[.bool lf, .slice PA ps.length pc, .slice TA tx.length tc, .slice KA ks.length kc] 26))
    clear hn hp ht hf hks hd' ih hoq0 hlq hsz0
    cases lf
    · have HPN := hd (show pathsN true (.mk false ps tx ks) q = [] ++ pathsK true ks 0 q by rw [pathsN]; rfl)
      go_enter Try.func51, Try.ntmps51
      go_wp2
      go_loopw [7, 23] (fun v i wr => ∃ (k nl : Nat) (A7 : Option Addr) (c7 : Nat), k ≤ ks.length ∧ v = .slice A7 nl c7 ∧ i = .int .i64 k ∧ nl ≤ 2000000 ∧ Hid (Below w.heap.size w wr ∧ nl = ([] ++ pathsK true (ks.take k) 0 q).length ∧ OwnQ wr w.heap.size e (.slice A7 nl c7) ([] ++ pathsK true (ks.take k) 0 q))) (fun _ i _ => ks.length - (intOf i).toNat)
      case atStart => exact ⟨0, 0, none, 0, Nat.zero_le _, rfl, rfl, by omega, ⟨HBW.out, by simp [pathsK], by simpa [pathsK] using OwnQ.nil _ _ _⟩⟩
      case round =>
        obtain ⟨k, nl, A7, c7, hk, rfl, rfl, hnl2, HR⟩ := hrel
        have hbr := HR.out.1
        have hsz := hbr.size
        by_cases hlt : k < ks.length
        · obtain ⟨m, b, o, lf1, PA1, np1, pc1, TA1, nt1, tc1, KA1, nk1, kc1, hm, rfl, hbg, hnm, x0, x1, x2, x3⟩ := (HKS.out.below hbr).at_ hlt
          have hsm := sizeT_kid hm
          obtain ⟨W0, hW0⟩ : ∃ W0, W0 = wr.alloc (.cells #[.bool lf1, .slice PA1 np1 pc1, .slice TA1 nt1 tc1, .slice KA1 nk1 kc1] 26) := ⟨_, rfl⟩
          have hb0 : Below wr.heap.size wr W0 := hW0 ▸ alloc_below wr _
          have hbox0 : W0.heap[wr.heap.size]? = some (.cells #[.bool lf1, .slice PA1 np1 pc1, .slice TA1 nt1 tc1, .slice KA1 nk1 kc1] 26 (0, 0)) := hW0 ▸ heap_alloc_new wr _
          have hs0 : W0.heap.size = wr.heap.size + 1 := by rw [hW0]; simp
          have hoq : OwnI W0 e (.slice A lq c) q := HOQ.out.below (hbr.trans (hb0.mono hsz))
          have hrow : OwnQ W0 w.heap.size e (.slice A7 nl c7) ([] ++ pathsK true (ks.take k) 0 q) := HR.out.2.2.below hb0
          have HM := hd hm
          have HNM := hd ((hnm.more hsz).later hb0)
          have HOW := hd hoq
          have HRW := hd hrow
          have HNL := hd HR.out.2.1
          have HB0 := hd (hbr.trans (hb0.mono hsz))
          have HBX := hd hbox0
          have HS0 := hd hs0
          obtain ⟨y0, y1, y2, y3, -⟩ := blkCells hbox0
          clear hnm hm hbr hb0 hbox0 hs0 hoq hrow
          subst hW0
          go_wp2_with fail
          go_region_law (first
            | (refine step_append_GX rowG _ rfl (.tmp 28) (.tmp 35) rfl w.heap.size (.slice A7 nl c7) nl vs rfl (ownsRow_below HV2.out HBA.out) A2 n2 c2 w2.heap.size ms rfl HM0.out HVL.out HCE.out (by unfold maxLen; omega) (by omega) (by omega) ?_; intro A3 c3 w3 hown3 hgrow3 hat3; have HQ3 := hd (OwnQ.join HV1.out (ownsRow_below HV2.out HBA.out) (fun k u hu => (HV3.out k u hu).below HBA.out) HM1.out HM3.out HNL.out HN2.out hown3 hgrow3); have HB3 := hd (HB2.out.grown hgrow3 (by omega) (fun j hj => (HRW.out.lt hj).1)); clear hown3 hgrow3 hat3)
            | ((go_simp; go_at_call 51; go_loud (refine Calls.mono (HIH.out w1 _ m A1 (q ++ [(k : Int)]) (lq + 1) c1 e HL1.out (by omega) (HNM.out.later HB1.out) HO1.out (by omega)) ?_; intro en w2 h2; obtain ⟨A2, c2, rfl, hq2, hb2⟩ := h2; obtain ⟨ms, hm1, hm2, hm3⟩ := hq2; obtain ⟨vs, hv1, hv2, hv3⟩ := HRW.out; rw [← HNL.out] at hv2; obtain ⟨n2, hn2⟩ : ∃ n2, n2 = (pathsN true m (q ++ [(k : Int)])).length := ⟨_, rfl⟩; have hn3 := pathsN_len true m (q ++ [(k : Int)]); rw [← hn2] at hm1 hm2 hn3; rw [← hn2]; have HV1 := hd hv1; have HV2 := hd hv2; have HV3 := hd hv3; have HBA := hd (HB1.out.trans (hb2.mono HB1.out.size)); have HM1 := hd (hm1.trans hn2); have HM3 := hd hm3; have HVL := hd (own_vl hm2); have HM0 := hd (show ms.length = n2 * 1 by omega); have HCE := hd (own_cells (L := pathsN true m (q ++ [(k : Int)])) (hm1.trans hn2) hm3); have HN2 := hd hn2; have HB2 := hd (HB0.out.trans ((HB1.out.trans (hb2.mono HB1.out.size)).mono HB0.out.size)); have hz2 := hb2.size; have hz1 := HB1.out.size; have hz0 := HB0.out.size; clear hm1 hm2 hm3 hv1 hv2 hv3 hn2 hb2)))
            | ((go_simp; go_at_call 66; refine Calls.mono (rwith_any A q lq c (k : Int) _ _ HLQ.out (by omega) (HOW.out.il_at ?hh) (by simp) (cell_new_drew _ _ _ (by simp))) ?_; (case hh => exact ((Below.refl _ _).alloc (Nat.le_refl _) _).drew); intro en w1 h1; obtain ⟨v1, rfl, ho1, hb1⟩ := h1; obtain ⟨A1, c1, rfl, _, _⟩ := ho1.open_at (lq + 1) (by rw [List.length_append, HLQ.out]; rfl); have hbw : Below (wr.alloc (.cells #[.bool lf1, .slice PA1 np1 pc1, .slice TA1 nt1 tc1, .slice KA1 nk1 kc1] 26)).heap.size (wr.alloc (.cells #[.bool lf1, .slice PA1 np1 pc1, .slice TA1 nt1 tc1, .slice KA1 nk1 kc1] 26)) w1 := (((Below.refl _ _).alloc (Nat.le_refl _) _).drew.trans (hb1.mono (by simp))); have HB1 := hd hbw; have hz1 := hbw.size; rw [HS0.out] at hz1; have HO1 := hd (ho1.weaken (b' := e) (by simp <;> omega)); have HL1 := hd (show (q ++ [(k : Int)]).length = lq + 1 by rw [List.length_append, HLQ.out]; rfl); have hk1 := keepBlk HBX.out hbw; obtain ⟨z0, z1, z2, z3, -⟩ := blkCells hk1; clear hk1 hbw hb1 ho1)))
          all_goals
            have hst := HQ3.out
            rw [List.append_assoc, ← pathsK_step true HM.out q] at hst
            have hle := pathsK_len true (ks.take (k + 1)) 0 q
            have hle2 := sizeK_le_take (ks := ks) (k := k + 1)
            have hlen : nl + n2 = ([] ++ pathsK true (ks.take (k + 1)) 0 q).length := by
              rw [pathsK_step true HM.out q, ← List.append_assoc, List.length_append, ← HNL.out, ← HN2.out]
            have hnl3 : nl + n2 ≤ 2000000 := by rw [hlen, List.length_append]; simp; omega
            have HNEW := hd (show Below w.heap.size w w3 ∧ nl + n2 = ([] ++ pathsK true (ks.take (k + 1)) 0 q).length ∧ OwnQ w3 w.heap.size e (.slice A3 (nl + n2) c3) ([] ++ pathsK true (ks.take (k + 1)) 0 q) from ⟨HB3.out, hlen, hst⟩)
            clear hst hlen hle hle2
            go_wp2_with fail
            go_roundw
            case rel => exact ⟨k + 1, nl + n2, A3, c3, by omega, rfl, by go_num, hnl3, HNEW⟩
            case measure => simp [intOf]; omega
        · obtain rfl : k = ks.length := by omega
          have hfin := HR.out
          rw [List.take_length] at hfin
          have HF := hd hfin
          clear hfin hbr
          go_wp2
          go_ret
          have hnn : (pathsN true (.mk false ps tx ks) q).length = nl := by rw [HPN.out]; exact HF.out.2.1.symm
          exact ⟨A7, c7, by rw [hnn]; rfl, by rw [hnn, HPN.out]; exact HF.out.2.2, HF.out.1⟩
    · have HPN := hd (show pathsN true (.mk true ps tx ks) q = [q] ++ pathsK true ks 0 q by rw [pathsN]; rfl)
      go_enter Try.func51, Try.ntmps51
      go_wp2_with (at_builtin; refine wpList_append_G0 rowG _ rfl (.tmp 16) (.tmp 18) rfl w.heap.size rfl (some ⟨w.heap.size + 1, 0, none⟩) 1 1 (w.heap.size + 2) [.slice A lq c] rfl rfl (two_new w _ _ _) (by simp [Value.oneCell']) (by unfold maxLen; omega) (by omega) (by simp <;> omega) ?_; intro A0 c0 w0 hown0 hb0 _; have hbw0 : Below w.heap.size w w0 := (((Below.refl _ _).alloc (Nat.le_refl _) _).alloc (by simp) _).trans (hb0.mono (by simp <;> omega)); have HW0 := hd hbw0; have HQ0 := hd (show OwnQ w0 w.heap.size e (.slice A0 1 c0) [q] from ⟨[.slice A lq c], rfl, hown0, one_own (HOQ.out.below hbw0)⟩); obtain ⟨z0, z1, z2, z3, -⟩ := blkCells (keepBlk ((Below.heap_alloc _ _ _ (by simp)).trans (heap_alloc_new w _)) hb0); clear hown0 hb0 hbw0)
      go_loopw [7, 23] (fun v i wr => ∃ (k nl : Nat) (A7 : Option Addr) (c7 : Nat), k ≤ ks.length ∧ v = .slice A7 nl c7 ∧ i = .int .i64 k ∧ nl ≤ 2000000 ∧ Hid (Below w.heap.size w wr ∧ nl = ([q] ++ pathsK true (ks.take k) 0 q).length ∧ OwnQ wr w.heap.size e (.slice A7 nl c7) ([q] ++ pathsK true (ks.take k) 0 q))) (fun _ i _ => ks.length - (intOf i).toNat)
      case atStart => exact ⟨0, 1, A0, c0, Nat.zero_le _, rfl, rfl, by omega, ⟨HW0.out, by simp [pathsK], by simpa [pathsK] using HQ0.out⟩⟩
      case round =>
        obtain ⟨k, nl, A7, c7, hk, rfl, rfl, hnl2, HR⟩ := hrel
        have hbr := HR.out.1
        have hsz := hbr.size
        by_cases hlt : k < ks.length
        · obtain ⟨m, b, o, lf1, PA1, np1, pc1, TA1, nt1, tc1, KA1, nk1, kc1, hm, rfl, hbg, hnm, x0, x1, x2, x3⟩ := (HKS.out.below hbr).at_ hlt
          have hsm := sizeT_kid hm
          obtain ⟨W0, hW0⟩ : ∃ W0, W0 = wr.alloc (.cells #[.bool lf1, .slice PA1 np1 pc1, .slice TA1 nt1 tc1, .slice KA1 nk1 kc1] 26) := ⟨_, rfl⟩
          have hb0 : Below wr.heap.size wr W0 := hW0 ▸ alloc_below wr _
          have hbox0 : W0.heap[wr.heap.size]? = some (.cells #[.bool lf1, .slice PA1 np1 pc1, .slice TA1 nt1 tc1, .slice KA1 nk1 kc1] 26 (0, 0)) := hW0 ▸ heap_alloc_new wr _
          have hs0 : W0.heap.size = wr.heap.size + 1 := by rw [hW0]; simp
          have hoq : OwnI W0 e (.slice A lq c) q := HOQ.out.below (hbr.trans (hb0.mono hsz))
          have hrow : OwnQ W0 w.heap.size e (.slice A7 nl c7) ([q] ++ pathsK true (ks.take k) 0 q) := HR.out.2.2.below hb0
          have HM := hd hm
          have HNM := hd ((hnm.more hsz).later hb0)
          have HOW := hd hoq
          have HRW := hd hrow
          have HNL := hd HR.out.2.1
          have HB0 := hd (hbr.trans (hb0.mono hsz))
          have HBX := hd hbox0
          have HS0 := hd hs0
          obtain ⟨y0, y1, y2, y3, -⟩ := blkCells hbox0
          clear hnm hm hbr hb0 hbox0 hs0 hoq hrow
          subst hW0
          go_wp2_with fail
          go_region_law (first
            | (refine step_append_GX rowG _ rfl (.tmp 28) (.tmp 35) rfl w.heap.size (.slice A7 nl c7) nl vs rfl (ownsRow_below HV2.out HBA.out) A2 n2 c2 w2.heap.size ms rfl HM0.out HVL.out HCE.out (by unfold maxLen; omega) (by omega) (by omega) ?_; intro A3 c3 w3 hown3 hgrow3 hat3; have HQ3 := hd (OwnQ.join HV1.out (ownsRow_below HV2.out HBA.out) (fun k u hu => (HV3.out k u hu).below HBA.out) HM1.out HM3.out HNL.out HN2.out hown3 hgrow3); have HB3 := hd (HB2.out.grown hgrow3 (by omega) (fun j hj => (HRW.out.lt hj).1)); clear hown3 hgrow3 hat3)
            | ((go_simp; go_at_call 51; go_loud (refine Calls.mono (HIH.out w1 _ m A1 (q ++ [(k : Int)]) (lq + 1) c1 e HL1.out (by omega) (HNM.out.later HB1.out) HO1.out (by omega)) ?_; intro en w2 h2; obtain ⟨A2, c2, rfl, hq2, hb2⟩ := h2; obtain ⟨ms, hm1, hm2, hm3⟩ := hq2; obtain ⟨vs, hv1, hv2, hv3⟩ := HRW.out; rw [← HNL.out] at hv2; obtain ⟨n2, hn2⟩ : ∃ n2, n2 = (pathsN true m (q ++ [(k : Int)])).length := ⟨_, rfl⟩; have hn3 := pathsN_len true m (q ++ [(k : Int)]); rw [← hn2] at hm1 hm2 hn3; rw [← hn2]; have HV1 := hd hv1; have HV2 := hd hv2; have HV3 := hd hv3; have HBA := hd (HB1.out.trans (hb2.mono HB1.out.size)); have HM1 := hd (hm1.trans hn2); have HM3 := hd hm3; have HVL := hd (own_vl hm2); have HM0 := hd (show ms.length = n2 * 1 by omega); have HCE := hd (own_cells (L := pathsN true m (q ++ [(k : Int)])) (hm1.trans hn2) hm3); have HN2 := hd hn2; have HB2 := hd (HB0.out.trans ((HB1.out.trans (hb2.mono HB1.out.size)).mono HB0.out.size)); have hz2 := hb2.size; have hz1 := HB1.out.size; have hz0 := HB0.out.size; clear hm1 hm2 hm3 hv1 hv2 hv3 hn2 hb2)))
            | ((go_simp; go_at_call 66; refine Calls.mono (rwith_any A q lq c (k : Int) _ _ HLQ.out (by omega) (HOW.out.il_at ?hh) (by simp) (cell_new_drew _ _ _ (by simp))) ?_; (case hh => exact ((Below.refl _ _).alloc (Nat.le_refl _) _).drew); intro en w1 h1; obtain ⟨v1, rfl, ho1, hb1⟩ := h1; obtain ⟨A1, c1, rfl, _, _⟩ := ho1.open_at (lq + 1) (by rw [List.length_append, HLQ.out]; rfl); have hbw : Below (wr.alloc (.cells #[.bool lf1, .slice PA1 np1 pc1, .slice TA1 nt1 tc1, .slice KA1 nk1 kc1] 26)).heap.size (wr.alloc (.cells #[.bool lf1, .slice PA1 np1 pc1, .slice TA1 nt1 tc1, .slice KA1 nk1 kc1] 26)) w1 := (((Below.refl _ _).alloc (Nat.le_refl _) _).drew.trans (hb1.mono (by simp))); have HB1 := hd hbw; have hz1 := hbw.size; rw [HS0.out] at hz1; have HO1 := hd (ho1.weaken (b' := e) (by simp <;> omega)); have HL1 := hd (show (q ++ [(k : Int)]).length = lq + 1 by rw [List.length_append, HLQ.out]; rfl); have hk1 := keepBlk HBX.out hbw; obtain ⟨z0, z1, z2, z3, -⟩ := blkCells hk1; clear hk1 hbw hb1 ho1)))
          all_goals
            have hst := HQ3.out
            rw [List.append_assoc, ← pathsK_step true HM.out q] at hst
            have hle := pathsK_len true (ks.take (k + 1)) 0 q
            have hle2 := sizeK_le_take (ks := ks) (k := k + 1)
            have hlen : nl + n2 = ([q] ++ pathsK true (ks.take (k + 1)) 0 q).length := by
              rw [pathsK_step true HM.out q, ← List.append_assoc, List.length_append, ← HNL.out, ← HN2.out]
            have hnl3 : nl + n2 ≤ 2000000 := by rw [hlen, List.length_append]; simp; omega
            have HNEW := hd (show Below w.heap.size w w3 ∧ nl + n2 = ([q] ++ pathsK true (ks.take (k + 1)) 0 q).length ∧ OwnQ w3 w.heap.size e (.slice A3 (nl + n2) c3) ([q] ++ pathsK true (ks.take (k + 1)) 0 q) from ⟨HB3.out, hlen, hst⟩)
            clear hst hlen hle hle2
            go_wp2_with fail
            go_roundw
            case rel => exact ⟨k + 1, nl + n2, A3, c3, by omega, rfl, by go_num, hnl3, HNEW⟩
            case measure => simp [intOf]; omega
        · obtain rfl : k = ks.length := by omega
          have hfin := HR.out
          rw [List.take_length] at hfin
          have HF := hd hfin
          clear hfin hbr
          go_wp2
          go_ret
          have hnn : (pathsN true (.mk true ps tx ks) q).length = nl := by rw [HPN.out]; exact HF.out.2.1.symm
          exact ⟨A7, c7, by rw [hnn]; rfl, by rw [hnn, HPN.out]; exact HF.out.2.2, HF.out.1⟩

end Go.Proofs.Ytggapngibkeodaa
