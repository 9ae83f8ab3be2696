/- The document's Ahead. -/
import Derived.Test.YtjolmnghoigggaaKRef
namespace Go.Proofs.Ytjolmnghoigggaa
open Go.RowKit

/-- The row's paths, apart from block G. -/
def RowOk (w : World) (A : Option Addr) (L : List (List Int)) (B G : Nat) : Prop := ∀ j, j < L.length → ∃ b o Ak nk ck, A = some ⟨b, o, none⟩ ∧ b ≠ G ∧ w.cell? ⟨b, o + j, none⟩ = some (.slice Ak nk ck) ∧ OwnI w B (.slice Ak nk ck) (lAt L j)
set_option maxRecDepth 4000 in
theorem RowOk.below {w w' : World} {A : Option Addr} {L : List (List Int)} {B G : Nat} (h : RowOk w A L B G) (hb : Below w.heap.size w w') : RowOk w' A L B G := fun j hj => by
  obtain ⟨b, o, Ak, nk, ck, e, hne, hc, ho⟩ := h j hj
  exact ⟨b, o, Ak, nk, ck, e, hne, (hb.cell (cell_in hc)).trans hc, ho.below hb⟩
set_option maxRecDepth 4000 in
theorem RowOk.stored {w : World} {A : Option Addr} {L : List (List Int)} {B G : Nat} {a b : Value} (h : RowOk w A L B G) (hg : w.heap[G]? = some (.cells #[a, b] 29 (0, 0))) (x y : Value) : RowOk ((w.setCell ⟨G, 0, none⟩ x).setCell ⟨G, 1, none⟩ y) A L B G := fun j hj => by
  obtain ⟨b, o, Ak, nk, ck, e, hne, hc, ho⟩ := h j hj
  exact ⟨b, o, Ak, nk, ck, e, hne, cell_far2 hc hne x y, (ho.pt (x := x) (y := y) hg).2⟩
set_option maxRecDepth 4000 in
theorem stored_below {B g : Nat} {w W : World} (h : Below B w W) (hg : B ≤ g) (x y : Value) : Below B w ((W.setCell ⟨g, 0, none⟩ x).setCell ⟨g, 1, none⟩ y) := (h.setCell (by exact hg) x).setCell (by exact hg) y
set_option maxRecDepth 4000 in
set_option maxHeartbeats 4000000 in
theorem rahead_any (d : Nat) (w : World) (v : Value) (n : NT) (Q : Option Addr) (p : List Int) (lp cp : Nat) (hlp : p.length = lp) (hl : lp ≤ 10000000) (hcp : lp ≤ cp) (hM : sizeT n ≤ 1048576) (hn : NodeAt d w w.heap.size v n) (hp : IL w w.heap.size Q p) :
    Calls Try.prog 26 #[v, .slice Q lp cp] w (Tells w (LastIs n (aheadB p)) (offT n)) := by
  obtain ⟨lf, PA, np, pc, TA, nt, tc, KA, nk, kc, rfl⟩ := hn.val
  obtain ⟨W0, hW⟩ : ∃ W0, W0 = ((w.alloc (.cells #[.bool lf, .slice PA np pc, .slice TA nt tc, .slice KA nk kc] 26)).alloc (.cells #[.slice none 0 0, .int .i64 0] 29)).alloc (.cells #[.slice none 0 0, .int .i64 0] 29) := ⟨_, rfl⟩
  have hb0 : Below w.heap.size w W0 := hW ▸ (below_mono2 (Below.refl _ _) (Nat.le_refl _)).alloc (by simp; omega) _
  have hz0 : W0.heap.size = w.heap.size + 1 + 1 + 1 := by rw [hW]; simp
  have e0 := three_new w (Obj.cells #[Value.bool lf, .slice PA np pc, .slice TA nt tc, .slice KA nk kc] 26) (Obj.cells #[Value.slice none 0 0, .int .i64 0] 29) (Obj.cells #[Value.slice none 0 0, .int .i64 0] 29)
  rw [← hW] at e0
  obtain ⟨n0, n1, n2, n3, _, _, _, _⟩ := blkCells e0.1
  obtain ⟨NL, hNL⟩ : ∃ NL, NL = (pathsN true n []).length := ⟨_, rfl⟩
  have hle : NL ≤ sizeT n := hNL ▸ pathsN_len true n []
  have HNL := hd hNL
  have HX := hd e0.1
  have HY := hd e0.2.1
  have HG := hd e0.2.2
  have HW := hd hW
  have HB0 := hd hb0
  have HZ := hd hz0
  have HC := hd (rwleaves_any d W0 _ n (hn.later hb0) (by omega))
  have HP := hd (show PaAt w (.slice Q lp cp) p from ⟨Q, lp, cp, rfl, hlp, hl, hcp, hp⟩)
  have HM := hd hM
  have HN := hd hn
  clear hn hW hb0 e0 hNL hp hlp hz0
  go_enter Try.func26, Try.ntmps26
  go_upto_region 4 with (go_at_call 42; rw [← HW.out]; refine HC.out.mono ?_; rintro e w1 ⟨A1, c1, rfl, hq1, b1⟩; rw [← HNL.out]; have HR := hd (show OwnQ w1 W0.heap.size W0.heap.size (.slice A1 (lvs n).length c1) (lvs n) from hq1); have HB1 := hd (HB0.out.trans (b1.mono HB0.out.size)); have HX1 := hd (keepBlk HX.out b1); have HY1 := hd (keepBlk HY.out b1); have HG1 := hd (keepBlk HG.out b1); clear b1 hq1 n0 n1 n2 n3)
  have HRK := hd (show RowOk w1 A1 (lvs n) W0.heap.size (w.heap.size + 1 + 1) from fun j hj => by
    obtain ⟨b, o, Ak, nk, ck, e, hc, ho⟩ := HR.out.one hj
    subst e
    have h1 := HR.out.lt (j := b) rfl
    have h2 := HZ.out
    exact ⟨b, o, Ak, nk, ck, rfl, by omega, hc, ho⟩)
  clear HR
  go_loopw [7, 14] (fun e i wr => ∃ (k : Nat) (A : Option Addr) (m c : Nat), k ≤ NL ∧ i = .int .i64 k ∧ e = .int .i64 (eO (lastTo n (aheadB p) k)) ∧ Hid (Below w.heap.size w wr) ∧ Hid (wr.heap[w.heap.size]? = some (.cells #[.bool lf, .slice PA np pc, .slice TA nt tc, .slice KA nk kc] 26 (0, 0))) ∧ Hid (wr.heap[w.heap.size + 1]? = some (.cells #[.slice none 0 0, .int .i64 0] 29 (0, 0))) ∧
    Hid (wr.heap[w.heap.size + 1 + 1]? = some (.cells #[.slice A m c, .int .i64 (pO (offT n) (lastTo n (aheadB p) k)).2] 29 (0, 0))) ∧ Hid (OwnI wr W0.heap.size (.slice A m c) (pO (offT n) (lastTo n (aheadB p) k)).1) ∧ Hid (RowOk wr A1 (lvs n) W0.heap.size (w.heap.size + 1 + 1))) (fun _ i _ => NL - (intOf i).toNat)
  case atStart => exact ⟨0, none, 0, 0, Nat.zero_le _, rfl, rfl, HB1, HX1, HY1, HG1, OwnI.nil _ _, HRK⟩
  case round =>
    clear HRK HB1 HX1 HY1 HG1
    obtain ⟨k, A, m, c, hk, rfl, rfl, HBR, HXR, HYR, HGR, HOR, HRR⟩ := hrel
    have hlv : (lvs n).length = NL := HNL.out.symm
    by_cases hlt : k < NL
    · obtain ⟨b, o, Ak, nk', ck, rfl, hbg, hc, hoi⟩ := HRR.out k (by omega)
      obtain ⟨q, hq⟩ : ∃ q, lAt (lvs n) k = q := ⟨_, rfl⟩
      have hqs : q.length ≤ 10000000 := hq ▸ lvs_short HM.out (by omega)
      rw [hq] at hoi
      obtain ⟨C, hC⟩ : ∃ C, cmpL q p = C := ⟨_, rfl⟩
      obtain ⟨U, hU⟩ : ∃ U, aboveL q p = U := ⟨_, rfl⟩
      have hpw := HP.out.later HBR.out
      have HCC := hd (hC ▸ rtcmp_at (w := wr) (W := wr) (Below.refl _ _) (hoi.pa hqs) hpw)
      have hF : aheadB p q = (decide (C < 0) && !U) := by unfold aheadB; rw [hC, hU]
      have hL : lastTo n (aheadB p) (k + 1) = if (decide (C < 0) && !U) = true then some q else lastTo n (aheadB p) k := by rw [lastTo, hq, hF]
      have HQS := hd hqs
      have HOI := hd hoi
      have hpa := hoi.pa hqs
      have hPW := hd hpw
      have hPA := hd hpa
      clear hq hlv hqs hC hF hoi hpw hpa
      by_cases hC0 : C < 0
      · cases U with
        | true =>
          have HL := hd (hL.trans (if_neg (by simp)))
          have HCU := hd (fun (W : World) (h : Below wr.heap.size wr W) => hU ▸ rtabove_at h hPA.out hPW.out)
          clear hL hU
          go_wp2_with (first
            | (go_at_call 49; refine (HCU.out _ HB2.out).mono ?_; rintro e w3 ⟨rfl, b3⟩; have HB2 := hd (HB2.out.trans (b3.mono HB2.out.size)); clear b3)
            | (go_at_call 48; refine HCC.out.mono ?_; rintro e w2 ⟨rfl, b2⟩; have HB2 := hd b2; clear b2 hc))
          go_roundw
          case rel => exact ⟨k + 1, A, m, c, by omega, by first | go_num | rfl, by rw [HL.out], hd (HBR.out.trans (HB2.out.mono HBR.out.size)), hd (keepBlk HXR.out HB2.out), hd (keepBlk HYR.out HB2.out), by rw [HL.out]; exact hd (keepBlk HGR.out HB2.out), by rw [HL.out]; exact hd (HOR.out.below HB2.out), hd (HRR.out.below HB2.out)⟩
          case measure => first | (simp [intOf]; done) | (simp [intOf]; omega)
        | false =>
          have HL := hd (hL.trans (if_pos (by simp [hC0])))
          have HCU := hd (fun (W : World) (h : Below wr.heap.size wr W) => hU ▸ rtabove_at h hPA.out hPW.out)
          have hlen : nk' ≤ 10000000 ∧ q.length = nk' := by
            obtain ⟨_, _, _, e5, e6, e7, _, _⟩ := hPA.out
            injection e5 with _ e5b _
            subst e5b
            exact ⟨e7, e6⟩
          have HE := hd (fun (W : World) (h : Below wr.heap.size wr W) => rend_any d W _ n Ak q nk' ck hlen.2 hlen.1 (HN.out.later (HBR.out.trans (h.mono HBR.out.size))) (by
            obtain ⟨_, _, _, e5, e6, _, _, e9⟩ := hPA.out.later h
            injection e5 with e5a e5b e5c
            subst e5a
            exact e9))
          clear hL hU hlen
          obtain ⟨n0, n1, n2, n3, _, _, _, _⟩ := blkCells HXR.out
          obtain ⟨g0, g1, f0, f1⟩ := blk2 HGR.out
          go_wp2_with (first
            | (go_at_call 45; refine (HE.out _ HB2.out).mono ?_; rintro e w4 ⟨rfl, b4⟩; have HB2 := hd (HB2.out.trans (b4.mono HB2.out.size)); clear b4 n0 n1 n2 n3 g0 g1 f0 f1; obtain ⟨n0, n1, n2, n3, _, _, _, _⟩ := blkCells (keepBlk HXR.out HB2.out); obtain ⟨g0, g1, f0, f1⟩ := blk2 (keepBlk HGR.out HB2.out))
            | (go_at_call 49; refine (HCU.out _ HB2.out).mono ?_; rintro e w3 ⟨rfl, b3⟩; have HB2 := hd (HB2.out.trans (b3.mono HB2.out.size)); clear b3 n0 n1 n2 n3 g0 g1 f0 f1; obtain ⟨n0, n1, n2, n3, _, _, _, _⟩ := blkCells (keepBlk HXR.out HB2.out); obtain ⟨g0, g1, f0, f1⟩ := blk2 (keepBlk HGR.out HB2.out))
            | (go_at_call 48; refine HCC.out.mono ?_; rintro e w2 ⟨rfl, b2⟩; have HB2 := hd b2; clear b2 hc n0 n1 n2 n3 g0 g1 f0 f1; obtain ⟨n0, n1, n2, n3, _, _, _, _⟩ := blkCells (keepBlk HXR.out HB2.out); obtain ⟨g0, g1, f0, f1⟩ := blk2 (keepBlk HGR.out HB2.out)))
          clear n0 n1 n2 n3 g0 g1 f0 f1
          have hG4 := keepBlk HGR.out HB2.out
          have hG5 := blk2_both hG4 (.slice Ak nk' ck) (.int .i64 (offT n q))
          have hne0 : w.heap.size ≠ w.heap.size + 1 + 1 := by omega
          have hne1 : w.heap.size + 1 ≠ w.heap.size + 1 + 1 := by omega
          have hX5 := blk_far (k := 1) (blk_far (g' := w.heap.size + 1 + 1) (k := 0) (keepBlk HXR.out HB2.out) hne0 (.slice Ak nk' ck)) hne0 (.int .i64 (offT n q))
          have hY5 := blk_far (k := 1) (blk_far (g' := w.heap.size + 1 + 1) (k := 0) (keepBlk HYR.out HB2.out) hne1 (.slice Ak nk' ck)) hne1 (.int .i64 (offT n q))
          have hO5 := ((HOI.out.below HB2.out).pt (x := .slice Ak nk' ck) (y := .int .i64 (offT n q)) hG4).2
          have hR5 := (HRR.out.below HB2.out).stored hG4 (.slice Ak nk' ck) (.int .i64 (offT n q))
          have hB5 := stored_below (g := w.heap.size + 1 + 1) (HBR.out.trans (HB2.out.mono HBR.out.size)) (by omega) (.slice Ak nk' ck) (.int .i64 (offT n q))
          go_roundw
          case rel => exact ⟨k + 1, Ak, nk', ck, by omega, by first | go_num | rfl, by rw [HL.out]; rfl, hd hB5, hd hX5, hd hY5, by rw [HL.out]; exact hd hG5, by rw [HL.out]; exact hd hO5, hd hR5⟩
          case measure => first | (simp [intOf]; done) | (simp [intOf]; omega)
      · have HL := hd (hL.trans (if_neg (by simp [hC0])))
        clear hL hU
        go_wp2_with (go_at_call 48; refine HCC.out.mono ?_; rintro e w2 ⟨rfl, b2⟩; have HB2 := hd b2; clear b2 hc)
        go_roundw
        case rel => exact ⟨k + 1, A, m, c, by omega, by first | go_num | rfl, by rw [HL.out], hd (HBR.out.trans (HB2.out.mono HBR.out.size)), hd (keepBlk HXR.out HB2.out), hd (keepBlk HYR.out HB2.out), by rw [HL.out]; exact hd (keepBlk HGR.out HB2.out), by rw [HL.out]; exact hd (HOR.out.below HB2.out), hd (HRR.out.below HB2.out)⟩
        case measure => first | (simp [intOf]; done) | (simp [intOf]; omega)
    · obtain rfl : k = NL := by omega
      have HF := hd (show LastIs n (aheadB p) (lastTo n (aheadB p) k) from hlv ▸ lastTo_all n (aheadB p))
      obtain ⟨r, hr⟩ : ∃ r, lastTo n (aheadB p) k = r := ⟨_, rfl⟩
      rw [hr] at HGR HOR HF ⊢
      obtain ⟨x, hx⟩ : ∃ x, (pO (offT n) r).2 = x := ⟨_, rfl⟩
      obtain ⟨er, her⟩ : ∃ e, eO r = e := ⟨_, rfl⟩
      rw [hx] at HGR
      rw [her]
      obtain ⟨y0, y1, k0, k1⟩ := blk2 HYR.out
      obtain ⟨g0, g1, _, _⟩ := blk2 HGR.out
      have HXE := hd hx
      have HEE := hd her
      clear hr hlv hx her
      go_wp2
      have hY3 := blk2_both HYR.out (.slice A m c) (.int .i64 x)
      obtain ⟨z0, z1, _, _⟩ := blk2 hY3
      have ho := (HOR.out.pt (x := .slice A m c) (y := .int .i64 x) HYR.out).2
      clear y0 y1 k0 k1 g0 g1
      refine bodyPost_ret (v := .tuple #[.agg #[.slice A m c, .int .i64 x], .int .i64 er]) (by simp [results, Try.results26, go_sem, z0, z1]) rfl ⟨r, HF.out, A, m, c, ho.len, by rw [HXE.out, HEE.out], ho.weaken HB0.out.size, ?_⟩
      exact (HBR.out.setCell (by show _ ≤ w.heap.size + 1; omega) _).setCell (by show _ ≤ w.heap.size + 1; omega) _

end Go.Proofs.Ytjolmnghoigggaa
