/- The document's points: end, First, Last, Ahead, Behind. -/
import Derived.Test.YtjolmnghoigggaaKBeside
import Derived.Test.YtjolmnghoigggaaIBase
import Derived.IntWalk
namespace Go.Proofs.Ytjolmnghoigggaa
open Go.RowKit

theorem rtcmp_at {w W : World} {u v : Value} {l m : List Int} (hb : Below w.heap.size w W) (hp : PaAt w u l) (hq : PaAt w v m) : Calls Try.prog 48 #[u, v] W (Still (.int .i64 (cmpL l m)) W) := by
  obtain ⟨A, n, c, rfl, rfl, h2, _, h3⟩ := hp.later hb
  obtain ⟨B, k, d, rfl, rfl, g2, _, g3⟩ := hq.later hb
  exact calls_still (rcompare_any A B l m c d W (by omega) (by omega) h3 g3)
set_option maxRecDepth 4000 in
theorem rtabove_at {w W : World} {u v : Value} {l m : List Int} (hb : Below w.heap.size w W) (hp : PaAt w u l) (hq : PaAt w v m) : Calls Try.prog 49 #[u, v] W (Still (.bool (aboveL l m)) W) := by
  obtain ⟨A, n, c, rfl, rfl, h2, _, h3⟩ := hp.later hb
  obtain ⟨B, k, d, rfl, rfl, g2, g4, g3⟩ := hq.later hb
  exact calls_still (rabove_any A B l m c d W (by omega) (by omega) g4 h3 g3)
set_option maxRecDepth 4000 in
theorem OwnI.len {w : World} {b n c : Nat} {A : Option Addr} {l : List Int} (h : OwnI w b (.slice A n c) l) : n = l.length := by
  obtain ⟨_, _, e, _⟩ := h.open_
  injection e
set_option maxRecDepth 4000 in
theorem offT_getE (n : NT) (q : List Int) : ((getE n q).1.tx.length : Int) = offT n q := by
  unfold getE offT
  cases getO n q <;> rfl

set_option maxRecDepth 4000 in
set_option maxHeartbeats 4000000 in
theorem rend_any (d : Nat) (w : World) (v : Value) (n : NT) (A : Option Addr) (q : List Int) (lq c : Nat) (hlq : q.length = lq) (hl : lq ≤ 10000000) (hn : NodeAt d w w.heap.size v n) (hq : IL w w.heap.size A q) :
    Calls Try.prog 45 #[v, .slice A lq c] w (Still (.agg #[.slice A lq c, .int .i64 (offT n q)]) w) := by
  obtain ⟨lf, PA, np, pc, TA, nt, tc, KA, nk, kc, rfl⟩ := hn.val
  obtain ⟨W0, hW⟩ : ∃ W0, W0 = (w.alloc (.cells #[.bool lf, .slice PA np pc, .slice TA nt tc, .slice KA nk kc] 26)).alloc (.cells #[.slice none 0 0, .int .i64 0] 29) := ⟨_, rfl⟩
  have hb0 : Below w.heap.size w W0 := hW ▸ below_mono2 (Below.refl _ _) (Nat.le_refl _)
  have e0 := pt_new w (Obj.cells #[Value.bool lf, .slice PA np pc, .slice TA nt tc, .slice KA nk kc] 26) (Obj.cells #[Value.slice none 0 0, .int .i64 0] 29)
  rw [← hW] at e0
  obtain ⟨n0, n1, n2, n3, _, _, _, _⟩ := blkCells e0.1
  have HX := hd e0.1
  have HY := hd e0.2
  have HW := hd hW
  have HB0 := hd hb0
  have HE := hd (offT_getE n q)
  have HC := hd (rtget_any d W0 _ n A q lq c hlq hl (hn.later hb0) (hq.later hb0))
  clear hn hq hW hb0 e0 hlq hl
  go_enter Try.func45, Try.ntmps45
  go_wp2_with (go_at_call 39; rw [← HW.out]; refine HC.out.mono ?_; intro e w1 h1; obtain ⟨v1, d1, rfl, ht1, hb1⟩ := h1; obtain ⟨d', lf1, ps1, tx1, ks1, PA1, pc1, TA1, tc1, KA1, kc1, _, hm1, rfl, _, _, hf1, _⟩ := (ht1.at_ (B := w1.heap.size) (fun b hb => hb.2)).open_; have HL := hd (show (tx1.length : Int) = offT n q by rw [← HE.out, hm1]; rfl); have hf2 := hf1.2.2.1; have hb1' := hb1.alloc hb1.size (.cells #[.bool lf1, .slice PA1 ps1.length pc1, .slice TA1 tx1.length tc1, .slice KA1 ks1.length kc1] 26); have HB1 := hd hb1'; have HY1 := hd (keepBlk HY.out hb1'); clear ht1 hb1 hb1' hf1 hm1 n0 n1 n2 n3; obtain ⟨y0, y1, g0, g1⟩ := blk2 HY1.out)
  have hY3 := blk2_both HY1.out (.slice A lq c) (.int .i64 (tx1.length : Int))
  obtain ⟨z0, z1, _, _⟩ := blk2 hY3
  clear y0 y1 g0 g1
  refine bodyPost_ret (v := .agg #[.slice A lq c, .int .i64 (tx1.length : Int)]) (by simp [results, Try.results45, go_sem, z0, z1]) rfl ⟨by rw [HL.out], ?_⟩
  exact ((HB0.out.trans (HB1.out.mono HB0.out.size)).setCell (by show _ ≤ w.heap.size + 1; omega) _).setCell (by show _ ≤ w.heap.size + 1; omega) _

set_option maxRecDepth 4000 in
/-- One of a row's paths, a row of the call's own itself. -/
theorem OwnQ.one {w : World} {b e n c : Nat} {A : Option Addr} {L : List (List Int)} (h : OwnQ w b e (.slice A n c) L) {k : Nat} (hk : k < L.length) : ∃ g o Ak nk ck, A = some ⟨g, o, none⟩ ∧ w.cell? ⟨g, o + k, none⟩ = some (.slice Ak nk ck) ∧ OwnI w e (.slice Ak nk ck) (lAt L k) := by
  have hr := h.rl
  obtain ⟨vs, h1, h2, h3⟩ := h
  obtain ⟨g, o, Ak, ck, e1, hb, hc, _, _⟩ := hr.at_ hk
  obtain ⟨u, hu⟩ : ∃ u, vs[k]? = some u := ⟨_, List.getElem?_eq_getElem (by omega)⟩
  have ho := h3 k u hu
  rcases h2.2 with ⟨_, h0⟩ | ⟨g', cap, cur, e2, hbg, hg, hnc, _⟩
  · omega
  · injection e2 with e2 e3 e4
    rw [e1] at e2
    injection e2 with e2
    injection e2 with e5 e6
    subst e5 e6
    have hcell := h2.cells (g := g) (by rw [e1]; rfl) k u hu
    rw [Go.WideShapes.add_plain, hc] at hcell
    injection hcell with hcell
    rw [← hcell] at ho
    exact ⟨g, 0, Ak, _, ck, e1, hc, ho⟩
set_option maxRecDepth 4000 in
theorem OwnI.pa {w : World} {e n c : Nat} {A : Option Addr} {l : List Int} (h : OwnI w e (.slice A n c) l) (hl : l.length ≤ 10000000) : PaAt w (.slice A n c) l := by
  obtain ⟨A', c', e', h1, _, h2⟩ := h.open_
  injection e' with e1 e2 e3
  subst e1 e2 e3
  exact ⟨A, _, c, rfl, rfl, hl, h1, h2⟩
set_option maxRecDepth 4000 in
theorem cell_far2 {W : World} {g k g' : Nat} {v : Value} (h : W.cell? ⟨g, k, none⟩ = some v) (hne : g ≠ g') (x y : Value) : ((W.setCell ⟨g', 0, none⟩ x).setCell ⟨g', 1, none⟩ y).cell? ⟨g, k, none⟩ = some v := by
  rw [World.cell?_setCell_other _ _ _ _ (by intro e; injection e with e; exact hne e.symm), World.cell?_setCell_other _ _ _ _ (by intro e; injection e with e; exact hne e.symm)]
  exact h
set_option maxRecDepth 4000 in
theorem lvs_short {n : NT} (hM : sizeT n ≤ 1048576) {k : Nat} (hk : k < (lvs n).length) : (lAt (lvs n) k).length ≤ 10000000 := by
  have := leafB_short (lvs_leaf hk)
  omega

set_option maxRecDepth 4000 in
set_option maxHeartbeats 4000000 in
theorem rfirst_any (d : Nat) (w : World) (v : Value) (n : NT) (hM : sizeT n ≤ 1048576) (hn : NodeAt d w w.heap.size v n) :
    Calls Try.prog 21 #[v] w (Tells w (FirstIs n (fromB [])) (fun _ => 0)) := by
  obtain ⟨lf, PA, np, pc, TA, nt, tc, KA, nk, kc, rfl⟩ := hn.val
  obtain ⟨W0, hW⟩ : ∃ W0, W0 = (w.alloc (.cells #[.bool lf, .slice PA np pc, .slice TA nt tc, .slice KA nk kc] 26)).alloc (.cells #[.slice none 0 0, .int .i64 0] 29) := ⟨_, rfl⟩
  have hb0 : Below w.heap.size w W0 := hW ▸ below_mono2 (Below.refl _ _) (Nat.le_refl _)
  have e0 := pt_new w (Obj.cells #[Value.bool lf, .slice PA np pc, .slice TA nt tc, .slice KA nk kc] 26) (Obj.cells #[Value.slice none 0 0, .int .i64 0] 29)
  rw [← hW] at e0
  obtain ⟨n0, n1, n2, n3, _, _, _, _⟩ := blkCells e0.1
  obtain ⟨NL, hNL⟩ : ∃ NL, NL = (pathsN true n []).length := ⟨_, rfl⟩
  have hle : NL ≤ sizeT n := hNL ▸ pathsN_len true n []
  have HNL := hd hNL
  have HY := hd e0.2
  have HW := hd hW
  have HB0 := hd hb0
  have HC := hd (rwleaves_any d W0 _ n (hn.later hb0) (by omega))
  have HM := hd hM
  clear hn hW hb0 e0 hNL
  rcases Nat.eq_zero_or_pos NL with h0 | h0
  · have HF := hd (show FirstIs n (fromB []) none from firstNo fun j hj => by
      have : (lvs n).length = NL := HNL.out.symm
      omega)
    subst h0
    go_enter Try.func21, Try.ntmps21
    go_wp2_with (go_at_call 42; rw [← HW.out]; refine HC.out.mono ?_; rintro e w1 ⟨A1, c1, rfl, hq1, b1⟩; rw [← HNL.out]; have HB1 := hd b1; have HY1 := hd (keepBlk HY.out b1); clear b1 hq1 n0 n1 n2 n3; obtain ⟨y0, y1, g0, g1⟩ := blk2 HY1.out)
    have hY3 := blk2_both HY1.out (.slice none 0 0) (.int .i64 0)
    obtain ⟨z0, z1, _, _⟩ := blk2 hY3
    clear y0 y1 g0 g1
    refine bodyPost_ret (v := .tuple #[.agg #[.slice none 0 0, .int .i64 0], .int .i64 14]) (by simp [results, Try.results21, go_sem, z0, z1]) rfl ⟨none, HF.out, none, 0, 0, rfl, rfl, OwnI.nil _ _, ?_⟩
    exact ((HB0.out.trans (HB1.out.mono HB0.out.size)).setCell (by show _ ≤ w.heap.size + 1; omega) _).setCell (by show _ ≤ w.heap.size + 1; omega) _
  · have hl0 : 0 < (lvs n).length := by have : (lvs n).length = NL := HNL.out.symm; omega
    have HF := hd (lvs_first hl0)
    have hg : ((NL : Int) == 0) = false := beq_eq_false_iff_ne.2 (by omega)
    have HL0 := hd hl0
    clear hl0
    go_enter Try.func21, Try.ntmps21
    go_upto_region 4 with (go_at_call 42; rw [← HW.out]; refine HC.out.mono ?_; rintro e w1 ⟨A1, c1, rfl, hq1, b1⟩; rw [← HNL.out]; have HR := hd (show OwnQ w1 W0.heap.size W0.heap.size (.slice A1 (lvs n).length c1) (lvs n) from hq1); have HB1 := hd b1; have HY1 := hd (keepBlk HY.out b1); clear b1 hq1 n0 n1 n2 n3)
    obtain ⟨b, o, Ak, nk', ck, rfl, hc, hoi⟩ := HR.out.one HL0.out
    rw [Nat.add_zero] at hc
    obtain ⟨y0, y1, g0, g1⟩ := blk2 HY1.out
    have HOI := hd hoi
    clear hoi
    go_wp2
    have hY3 := blk2_both HY1.out (.slice Ak nk' ck) (.int .i64 0)
    obtain ⟨z0, z1, _, _⟩ := blk2 hY3
    clear y0 y1 g0 g1
    have ho := (HOI.out.pt (x := .slice Ak nk' ck) (y := .int .i64 0) HY1.out).2
    refine bodyPost_ret (v := .tuple #[.agg #[.slice Ak nk' ck, .int .i64 0], .int .i64 0]) (by simp [results, Try.results21, go_sem, z0, z1]) rfl ⟨some (lAt (lvs n) 0), HF.out, Ak, nk', ck, ho.len, rfl, ?_, ?_⟩
    · exact ho.weaken HB0.out.size
    · exact ((HB0.out.trans (HB1.out.mono HB0.out.size)).setCell (by show _ ≤ w.heap.size + 1; omega) _).setCell (by show _ ≤ w.heap.size + 1; omega) _

set_option maxRecDepth 4000 in
set_option maxHeartbeats 4000000 in
theorem rlast_any (d : Nat) (w : World) (v : Value) (n : NT) (hM : sizeT n ≤ 1048576) (hn : NodeAt d w w.heap.size v n) :
    Calls Try.prog 23 #[v] w (Tells w (LastIs n allB) (offT n)) := by
  obtain ⟨lf, PA, np, pc, TA, nt, tc, KA, nk, kc, rfl⟩ := hn.val
  obtain ⟨W0, hW⟩ : ∃ W0, W0 = (w.alloc (.cells #[.bool lf, .slice PA np pc, .slice TA nt tc, .slice KA nk kc] 26)).alloc (.cells #[.slice none 0 0, .int .i64 0] 29) := ⟨_, rfl⟩
  have hb0 : Below w.heap.size w W0 := hW ▸ below_mono2 (Below.refl _ _) (Nat.le_refl _)
  have e0 := pt_new w (Obj.cells #[Value.bool lf, .slice PA np pc, .slice TA nt tc, .slice KA nk kc] 26) (Obj.cells #[Value.slice none 0 0, .int .i64 0] 29)
  rw [← hW] at e0
  obtain ⟨n0, n1, n2, n3, _, _, _, _⟩ := blkCells e0.1
  obtain ⟨NL, hNL⟩ : ∃ NL, NL = (pathsN true n []).length := ⟨_, rfl⟩
  have hle : NL ≤ sizeT n := hNL ▸ pathsN_len true n []
  have HNL := hd hNL
  have HX := hd e0.1
  have HY := hd e0.2
  have HW := hd hW
  have HB0 := hd hb0
  have HC := hd (rwleaves_any d W0 _ n (hn.later hb0) (by omega))
  have HM := hd hM
  have HN := hd (hn.later hb0)
  clear hn hW hb0 e0 hNL
  rcases Nat.eq_zero_or_pos NL with h0 | h0
  · have HF := hd (show LastIs n allB none from fun z hz => by
      obtain ⟨i, hi, _⟩ := lvs_have hz
      have : (lvs n).length = NL := HNL.out.symm
      omega)
    subst h0
    go_enter Try.func23, Try.ntmps23
    go_wp2_with (go_at_call 42; rw [← HW.out]; refine HC.out.mono ?_; rintro e w1 ⟨A1, c1, rfl, hq1, b1⟩; rw [← HNL.out]; have HB1 := hd b1; have HY1 := hd (keepBlk HY.out b1); clear b1 hq1 n0 n1 n2 n3; obtain ⟨y0, y1, g0, g1⟩ := blk2 HY1.out)
    have hY3 := blk2_both HY1.out (.slice none 0 0) (.int .i64 0)
    obtain ⟨z0, z1, _, _⟩ := blk2 hY3
    clear y0 y1 g0 g1
    refine bodyPost_ret (v := .tuple #[.agg #[.slice none 0 0, .int .i64 0], .int .i64 14]) (by simp [results, Try.results23, go_sem, z0, z1]) rfl ⟨none, HF.out, none, 0, 0, rfl, rfl, OwnI.nil _ _, ?_⟩
    exact ((HB0.out.trans (HB1.out.mono HB0.out.size)).setCell (by show _ ≤ w.heap.size + 1; omega) _).setCell (by show _ ≤ w.heap.size + 1; omega) _
  · obtain ⟨k, rfl⟩ : ∃ k, NL = k + 1 := ⟨NL - 1, by omega⟩
    have hlk : (lvs n).length = k + 1 := HNL.out.symm
    have HF := hd (lvs_last hlk)
    have HLK := hd hlk
    obtain ⟨q, hq⟩ : ∃ q, lAt (lvs n) k = q := ⟨_, rfl⟩
    have HQ := hd hq
    have HQS := hd (show q.length ≤ 10000000 from hq ▸ lvs_short HM.out (by omega))
    have hg : (((k + 1 : Nat) : Int) == 0) = false := beq_eq_false_iff_ne.2 (by omega)
    clear hlk hq
    go_enter Try.func23, Try.ntmps23
    go_upto_region 4 with (go_at_call 42; rw [← HW.out]; refine HC.out.mono ?_; rintro e w1 ⟨A1, c1, rfl, hq1, b1⟩; rw [← HNL.out]; have HR := hd (show OwnQ w1 W0.heap.size W0.heap.size (.slice A1 (lvs n).length c1) (lvs n) from hq1); have HB1 := hd b1; have HX1 := hd (keepBlk HX.out b1); have HY1 := hd (keepBlk HY.out b1); clear b1 hq1 n0 n1 n2 n3)
    obtain ⟨b, o, Ak, nk', ck, rfl, hc, hoi⟩ := HR.out.one (k := k) (by rw [HLK.out]; omega)
    rw [HQ.out] at hoi
    have hpa := hoi.pa HQS.out
    have HOI := hd hoi
    obtain ⟨n0, n1, n2, n3, _, _, _, _⟩ := blkCells HX1.out
    have hq2 := hpa
    obtain ⟨_, _, _, e5, e6, _, _, e9⟩ := hq2
    injection e5 with e5a e5b e5c
    subst e5a e5b e5c
    have HE := hd (fun (W : World) (h : Below w1.heap.size w1 W) => rend_any d W _ n Ak q nk' ck e6 (e6 ▸ HQS.out) ((HN.out.later HB1.out).later h) (e9.later h))
    have HS9 := hd (fun (W : World) (h : Below w1.heap.size w1 W) => (show W.cell? ⟨w.heap.size, 0, none⟩ = some (.bool lf) ∧ W.cell? ⟨w.heap.size, 1, none⟩ = some (.slice PA np pc) ∧ W.cell? ⟨w.heap.size, 2, none⟩ = some (.slice TA nt tc) ∧ W.cell? ⟨w.heap.size, 3, none⟩ = some (.slice KA nk kc) ∧ W.cell? ⟨b, o + k, none⟩ = some (.slice Ak nk' ck) from ⟨(h.cell (cell_in n0)).trans n0, (h.cell (cell_in n1)).trans n1, (h.cell (cell_in n2)).trans n2, (h.cell (cell_in n3)).trans n3, (h.cell (cell_in hc)).trans hc⟩))
    have hbne : b ≠ w.heap.size + 1 := fun e => by
      have h1 := cell_in hc
      have := HR.out.lt (j := b) rfl
      have := HB0.out.size
      have h3 := lt_of_block HY.out
      omega
    have hne0 : w.heap.size ≠ w.heap.size + 1 := by omega
    have HSa := hd (HS9.out w1.drew (Below.refl _ _).drew)
    have hw1 : IntKind.i64.wrap ((k : Int) + 1 - 1) = (k : Int) := by rw [show (k : Int) + 1 - 1 = (k : Int) by omega]; exact Go.IntWalk.i64_in _ (by omega)
    have hw2 : (0 : Int) ≤ (k : Int) := by omega
    have hw3 : (k : Int).toNat = k := by omega
    have hw4 : (k : Int) < ((k + 1 : Nat) : Int) := by omega
    have hw5 : (k : Int) < (k : Int) + 1 := by omega
    have hw6 : IntKind.i64.wrap (k : Int) = (k : Int) := Go.IntWalk.i64_in _ (by omega)
    have hw7 : k < k + 1 := by omega
    have hw8 : (k : Int) ≤ ((k + 1 : Nat) : Int) := by omega
    clear hoi hpa e9 n0 n1 n2 n3 hc e6
    go_region_held3 (fun W => W.cell? ⟨w.heap.size, 0, none⟩ = some (.bool lf) ∧ W.cell? ⟨w.heap.size, 1, none⟩ = some (.slice PA np pc) ∧ W.cell? ⟨w.heap.size, 2, none⟩ = some (.slice TA nt tc) ∧ W.cell? ⟨w.heap.size, 3, none⟩ = some (.slice KA nk kc) ∧ W.cell? ⟨b, o + k, none⟩ = some (.slice Ak nk' ck))
      (first
        | (with_reducible exact HS3.out)
        | (with_reducible exact HS2.out)
        | (with_reducible exact HSa.out))
      (first
        | (go_at_call 45; refine Calls.mono (HE.out _ (Below.refl _ _).drew) ?_; rintro e w2 ⟨rfl, b2⟩; have hb2 : Below w1.heap.size w1 w2 := (Below.refl _ _).drew.trans b2; have HB2 := hd hb2; have HS2 := hd (HS9.out _ hb2); have HS3 := hd (show (_ ∧ _ ∧ _ ∧ _ ∧ _) from ⟨cell_far2 HS2.out.1 hne0 (.slice Ak nk' ck) (.int .i64 (offT n q)), cell_far2 HS2.out.2.1 hne0 (.slice Ak nk' ck) (.int .i64 (offT n q)), cell_far2 HS2.out.2.2.1 hne0 (.slice Ak nk' ck) (.int .i64 (offT n q)), cell_far2 HS2.out.2.2.2.1 hne0 (.slice Ak nk' ck) (.int .i64 (offT n q)), cell_far2 HS2.out.2.2.2.2 hbne (.slice Ak nk' ck) (.int .i64 (offT n q))⟩); have HY2 := hd (keepBlk HY1.out hb2); obtain ⟨y0, y1, g0, g1⟩ := blk2 HY2.out; clear b2 hb2))
    clear HSa HS2 HS3 hw1 hw2 hw3 hw4 hw5 hw6 hw7 hw8
    go_wp2
    have hY3 := blk2_both HY2.out (.slice Ak nk' ck) (.int .i64 (offT n q))
    obtain ⟨z0, z1, _, _⟩ := blk2 hY3
    have ho := ((HOI.out.below HB2.out).pt (x := .slice Ak nk' ck) (y := .int .i64 (offT n q)) HY2.out).2
    clear y0 y1 g0 g1
    refine bodyPost_ret (v := .tuple #[.agg #[.slice Ak nk' ck, .int .i64 (offT n q)], .int .i64 0]) (by simp [results, Try.results23, go_sem, z0, z1]) rfl ⟨some q, HQ.out ▸ HF.out, Ak, nk', ck, ho.len, rfl, ho.weaken HB0.out.size, ?_⟩
    exact ((HB0.out.trans ((HB1.out.trans (HB2.out.mono HB1.out.size)).mono HB0.out.size)).setCell (by show _ ≤ w.heap.size + 1; omega) _).setCell (by show _ ≤ w.heap.size + 1; omega) _

set_option maxRecDepth 4000 in
set_option maxHeartbeats 4000000 in
theorem rbehind_any (d : Nat) (w : World) (v : Value) (n : NT) (Q : Option Addr) (p : List Int) (lp cp : Nat) (hlp : p.length = lp) (hl : lp ≤ 10000000) (hcp : lp ≤ cp) (hM : sizeT n ≤ 1048576) (hn : NodeAt d w w.heap.size v n) (hp : IL w w.heap.size Q p) :
    Calls Try.prog 28 #[v, .slice Q lp cp] w (Tells w (FirstIs n (fromB p)) (fun _ => 0)) := by
  obtain ⟨lf, PA, np, pc, TA, nt, tc, KA, nk, kc, rfl⟩ := hn.val
  obtain ⟨W0, hW⟩ : ∃ W0, W0 = (w.alloc (.cells #[.bool lf, .slice PA np pc, .slice TA nt tc, .slice KA nk kc] 26)).alloc (.cells #[.slice none 0 0, .int .i64 0] 29) := ⟨_, rfl⟩
  have hb0 : Below w.heap.size w W0 := hW ▸ below_mono2 (Below.refl _ _) (Nat.le_refl _)
  have e0 := pt_new w (Obj.cells #[Value.bool lf, .slice PA np pc, .slice TA nt tc, .slice KA nk kc] 26) (Obj.cells #[Value.slice none 0 0, .int .i64 0] 29)
  rw [← hW] at e0
  obtain ⟨n0, n1, n2, n3, _, _, _, _⟩ := blkCells e0.1
  obtain ⟨NL, hNL⟩ : ∃ NL, NL = (pathsN true n []).length := ⟨_, rfl⟩
  have hle : NL ≤ sizeT n := hNL ▸ pathsN_len true n []
  have HNL := hd hNL
  have HY := hd e0.2
  have HW := hd hW
  have HB0 := hd hb0
  have HC := hd (rwleaves_any d W0 _ n (hn.later hb0) (by omega))
  have HP := hd (show PaAt W0 (.slice Q lp cp) p from ⟨Q, lp, cp, rfl, hlp, hl, hcp, hp.later hb0⟩)
  have HM := hd hM
  clear hn hW hb0 e0 hNL hp hlp
  go_enter Try.func28, Try.ntmps28
  go_upto_region 2 with (go_at_call 42; rw [← HW.out]; refine HC.out.mono ?_; rintro e w1 ⟨A1, c1, rfl, hq1, b1⟩; rw [← HNL.out]; have HR := hd (show OwnQ w1 W0.heap.size W0.heap.size (.slice A1 (lvs n).length c1) (lvs n) from hq1); have HB1 := hd b1; have HY1 := hd (keepBlk HY.out b1); clear b1 hq1 n0 n1 n2 n3)
  go_loopw [11] (fun i wr => ∃ k : Nat, k ≤ NL ∧ i = .int .i64 k ∧ Hid (Below w1.heap.size w1 wr) ∧ Hid (∀ j, j < k → fromB p (lAt (lvs n) j) = false)) (fun i _ => NL - (intOf i).toNat)
  case atStart => exact ⟨0, Nat.zero_le _, rfl, Below.refl _ _, fun j hj => absurd hj (Nat.not_lt_zero _)⟩
  case round =>
    obtain ⟨k, hk, rfl, HB, HA⟩ := hrel
    have hlv : (lvs n).length = NL := HNL.out.symm
    by_cases hlt : k < NL
    · obtain ⟨b, o, Ak, nk', ck, rfl, hc, hoi⟩ := HR.out.one (k := k) (by omega)
      obtain ⟨q, hq⟩ : ∃ q, lAt (lvs n) k = q := ⟨_, rfl⟩
      have hqs : q.length ≤ 10000000 := hq ▸ lvs_short HM.out (by omega)
      rw [hq] at hoi
      obtain ⟨C, hC⟩ : ∃ C, cmpL q p = C := ⟨_, rfl⟩
      have HCC := hd (hC ▸ rtcmp_at (w := w1) (W := wr) HB.out (hoi.pa hqs) (HP.out.later HB1.out))
      have hcr := (HB.out.cell (cell_in hc)).trans hc
      have HQ := hd hq
      have HLV := hd hlv
      have HOI := hd hoi
      have HQS := hd hqs
      have HCE := hd hC
      clear hq hlv hoi hqs hC hc
      by_cases hC0 : 0 ≤ C
      · have HF := hd (show FirstIs n (fromB p) (some q) from HQ.out ▸ firstAt (by rw [HLV.out]; exact hlt) (by unfold fromB; rw [HQ.out, HCE.out]; exact decide_eq_true hC0) HA.out)
        clear HA
        go_upto_region 5 with (go_at_call 48; refine HCC.out.mono ?_; rintro e w2 ⟨rfl, b2⟩; have HB2 := hd (HB.out.trans (b2.mono HB.out.size)); clear b2 hcr)
        have HY2 := hd (keepBlk HY1.out HB2.out)
        obtain ⟨y0, y1, g0, g1⟩ := blk2 HY2.out
        go_wp2
        have hY3 := blk2_both HY2.out (.slice Ak nk' ck) (.int .i64 0)
        obtain ⟨z0, z1, _, _⟩ := blk2 hY3
        have ho := ((HOI.out.below HB2.out).pt (x := .slice Ak nk' ck) (y := .int .i64 0) HY2.out).2
        clear y0 y1 g0 g1
        refine bodyPost_ret (v := .tuple #[.agg #[.slice Ak nk' ck, .int .i64 0], .int .i64 0]) (by simp [results, Try.results28, go_sem, z0, z1]) rfl ⟨some q, HF.out, Ak, nk', ck, ho.len, rfl, ho.weaken HB0.out.size, ?_⟩
        exact ((HB0.out.trans ((HB1.out.trans (HB2.out.mono HB1.out.size)).mono HB0.out.size)).setCell (by show _ ≤ w.heap.size + 1; omega) _).setCell (by show _ ≤ w.heap.size + 1; omega) _
      · have HA2 := one_more (p := fun j => fromB p (lAt (lvs n) j) = false) HA (by unfold fromB; rw [HQ.out, HCE.out]; exact decide_eq_false hC0)
        clear HA
        go_wp2_with (go_at_call 48; refine HCC.out.mono ?_; rintro e w2 ⟨rfl, b2⟩; have HB2 := hd (HB.out.trans (b2.mono HB.out.size)); clear b2 hcr)
        go_roundw
        case rel => exact ⟨k + 1, by omega, by first | go_num | rfl, HB2, HA2⟩
        case measure => first | (simp [intOf]; done) | (simp [intOf]; omega)
    · have HF := hd (show FirstIs n (fromB p) none from firstNo fun j hj => HA.out j (by omega))
      have HY2 := hd (keepBlk HY1.out HB.out)
      obtain ⟨y0, y1, g0, g1⟩ := blk2 HY2.out
      clear HA hlv
      go_wp2
      have hY3 := blk2_both HY2.out (.slice none 0 0) (.int .i64 0)
      obtain ⟨z0, z1, _, _⟩ := blk2 hY3
      clear y0 y1 g0 g1
      refine bodyPost_ret (v := .tuple #[.agg #[.slice none 0 0, .int .i64 0], .int .i64 14]) (by simp [results, Try.results28, go_sem, z0, z1]) rfl ⟨none, HF.out, none, 0, 0, rfl, rfl, OwnI.nil _ _, ?_⟩
      exact ((HB0.out.trans ((HB1.out.trans (HB.out.mono HB1.out.size)).mono HB0.out.size)).setCell (by show _ ≤ w.heap.size + 1; omega) _).setCell (by show _ ≤ w.heap.size + 1; omega) _

end Go.Proofs.Ytjolmnghoigggaa
