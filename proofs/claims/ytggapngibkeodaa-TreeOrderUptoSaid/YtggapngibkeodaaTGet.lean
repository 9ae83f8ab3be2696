/- hasKid, Get, and the document's Get. -/
import Derived.Test.YtggapngibkeodaaTCopy
import Derived.Test.YtggapngibkeodaaIRows
namespace Go.Proofs.Ytggapngibkeodaa
open Go.RowKit

theorem haskid_any (n : NT) (i : Int) (r : Bool) (hr : hasB n i = r) (d : Nat) (w : World) (v : Value) (hn : NodeAt d w w.heap.size v n) :
    Calls Try.prog 37 #[v, .int .i64 i] w (Still (.bool r) w) := by
  obtain ⟨d', lf, ps, tx, ks, PA, pc, TA, tc, KA, kc, hd', rfl, rfl, hp, ht, hf, hks⟩ := hn.open_
  have hl3 := hf.2.2.2.1
  have HB := hd (show Below w.heap.size w (w.alloc (.cells #[.bool lf, .slice PA ps.length pc, .slice TA tx.length tc, .slice KA ks.length kc] 26)) from (Below.refl _ _).alloc (Nat.le_refl _) _)
  have hr' : (decide (0 ≤ i) && decide (i < ks.length)) = r := hr
  clear hn hp ht hf hks hd' hr
  by_cases h1 : 0 ≤ i
  · by_cases h2 : i < ks.length
    · have HF := hd (show r = true by rw [← hr']; simp [h1, h2])
      clear hr'
      go_enter Try.func37, Try.ntmps37
      go_wp2
      go_ret
      exact ⟨ret_bool HF.out.symm, HB.out⟩
    · have HF := hd (show r = false by rw [← hr']; simp [h2])
      have h3 : decide (i < (ks.length : Int)) = false := decide_eq_false h2
      clear hr'
      go_enter Try.func37, Try.ntmps37
      go_wp2
      go_ret
      exact ⟨ret_bool HF.out.symm, HB.out⟩
  · have HF := hd (show r = false by rw [← hr']; simp [h1])
    have h3 : decide (0 ≤ i) = false := decide_eq_false h1
    clear hr'
    go_enter Try.func37, Try.ntmps37
    go_wp2
    go_ret
    exact ⟨ret_bool HF.out.symm, HB.out⟩

/-- A new tree, and an error's number. -/
def NewN (r : NT × Int) (w : World) (e : Ending) (w' : World) : Prop :=
  ∃ v d, e = .returned (.tuple #[v, .int .i64 r.2]) ∧ TreeP (fun b => w.heap.size ≤ b ∧ b < w'.heap.size) d w' v r.1 ∧ Below w.heap.size w w'
theorem newN_ret {r : NT × Int} {n : NT} {e : Int} {w w' : World} {v : Value} {d : Nat} (h : r = (n, e)) (ht : TreeP (fun b => w.heap.size ≤ b ∧ b < w'.heap.size) d w' v n) (hb : Below w.heap.size w w') : NewN r w (.returned (.tuple #[v, .int .i64 e])) w' := by
  subst h; exact ⟨v, d, rfl, ht, hb⟩

/-- How far down the path: the node there, in the call's own variable. -/
structure GetLoop (w : World) (d : Nat) (n : NT) (p : List Int) (k : Nat) (lf : Bool) (PA : Option Addr) (np pc : Nat) (TA : Option Addr) (nt tc : Nat) (KA : Option Addr) (nk kc : Nat) (m : NT) (wr : World) : Prop where
  below : Below w.heap.size w wr
  res : wr.heap[w.heap.size + 1]? = some (.cells #[.bool false, .slice none 0 0, .slice none 0 0, .slice none 0 0] 26 (0, 0))
  var : wr.heap[w.heap.size]? = some (.cells #[.bool lf, .slice PA np pc, .slice TA nt tc, .slice KA nk kc] 26 (0, 0))
  at_ : getO n (p.take k) = some m
  node : NodeAt d wr w.heap.size (.agg #[.bool lf, .slice PA np pc, .slice TA nt tc, .slice KA nk kc]) m

theorem two_boxes (w : World) (a b c d : Value) (t : TypeId) (a' b' c' d' : Value) (t' : TypeId) :
    ((w.alloc (.cells #[a, b, c, d] t)).alloc (.cells #[a', b', c', d'] t')).heap[w.heap.size]? = some (.cells #[a, b, c, d] t (0, 0)) ∧ ((w.alloc (.cells #[a, b, c, d] t)).alloc (.cells #[a', b', c', d'] t')).heap[w.heap.size + 1]? = some (.cells #[a', b', c', d'] t' (0, 0)) := by
  refine ⟨?_, ?_⟩
  · rw [Below.heap_alloc _ _ _ (by simp)]; exact heap_alloc_new _ _
  · rw [← sz1 (w := w) (A := .cells #[a, b, c, d] t)]; exact heap_alloc_new _ _
theorem get_start {w : World} {d : Nat} {n : NT} {p : List Int} {lf : Bool} {PA : Option Addr} {np pc : Nat} {TA : Option Addr} {nt tc : Nat} {KA : Option Addr} {nk kc : Nat} (hn : NodeAt d w w.heap.size (.agg #[.bool lf, .slice PA np pc, .slice TA nt tc, .slice KA nk kc]) n) :
    GetLoop w d n p 0 lf PA np pc TA nt tc KA nk kc n ((w.alloc (.cells #[.bool lf, .slice PA np pc, .slice TA nt tc, .slice KA nk kc] 26)).alloc (.cells #[.bool false, .slice none 0 0, .slice none 0 0, .slice none 0 0] 26)) := by
  have hb := below_mono2 (w := w) (w' := w) (o := (.cells #[.bool lf, .slice PA np pc, .slice TA nt tc, .slice KA nk kc] 26)) (o' := (.cells #[.bool false, .slice none 0 0, .slice none 0 0, .slice none 0 0] 26)) (Below.refl _ _) (Nat.le_refl w.heap.size)
  obtain ⟨h1, h2⟩ := two_boxes w (.bool lf) (.slice PA np pc) (.slice TA nt tc) (.slice KA nk kc) 26 (.bool false) (.slice none 0 0) (.slice none 0 0) (.slice none 0 0) 26
  exact ⟨hb, h2, h1, rfl, hn.below hb⟩
theorem get_step {w wr w2 : World} {d : Nat} {n m m2 : NT} {p : List Int} {k : Nat} {lf : Bool} {PA : Option Addr} {np pc : Nat} {TA : Option Addr} {nt tc : Nat} {KA : Option Addr} {nk kc : Nat} {lf2 : Bool} {PA2 : Option Addr} {np2 pc2 : Nat} {TA2 : Option Addr} {nt2 tc2 : Nat} {KA2 : Option Addr} {nk2 kc2 : Nat}
    (h : GetLoop w d n p k lf PA np pc TA nt tc KA nk kc m wr) (hb : Below wr.heap.size wr w2) (hm : getO n (p.take (k + 1)) = some m2) (hn : NodeAt d w2 w.heap.size (.agg #[.bool lf2, .slice PA2 np2 pc2, .slice TA2 nt2 tc2, .slice KA2 nk2 kc2]) m2) :
    GetLoop w d n p (k + 1) lf2 PA2 np2 pc2 TA2 nt2 tc2 KA2 nk2 kc2 m2 ((((w2.setCell ⟨w.heap.size, 0, none⟩ (.bool lf2)).setCell ⟨w.heap.size, 1, none⟩ (.slice PA2 np2 pc2)).setCell ⟨w.heap.size, 2, none⟩ (.slice TA2 nt2 tc2)).setCell ⟨w.heap.size, 3, none⟩ (.slice KA2 nk2 kc2)) := by
  have hs := h.below.size
  have hb2 : Below w.heap.size w w2 := h.below.trans (hb.mono hs)
  have hbx : Below w.heap.size w ((((w2.setCell ⟨w.heap.size, 0, none⟩ (.bool lf2)).setCell ⟨w.heap.size, 1, none⟩ (.slice PA2 np2 pc2)).setCell ⟨w.heap.size, 2, none⟩ (.slice TA2 nt2 tc2)).setCell ⟨w.heap.size, 3, none⟩ (.slice KA2 nk2 kc2)) := (((hb2.setCell (Nat.le_refl _) _).setCell (Nat.le_refl _) _).setCell (Nat.le_refl _) _).setCell (Nat.le_refl _) _
  have hb2x : Below w.heap.size w2 ((((w2.setCell ⟨w.heap.size, 0, none⟩ (.bool lf2)).setCell ⟨w.heap.size, 1, none⟩ (.slice PA2 np2 pc2)).setCell ⟨w.heap.size, 2, none⟩ (.slice TA2 nt2 tc2)).setCell ⟨w.heap.size, 3, none⟩ (.slice KA2 nk2 kc2)) := ((((Below.refl w.heap.size w2).setCell (Nat.le_refl _) _).setCell (Nat.le_refl _) _).setCell (Nat.le_refl _) _).setCell (Nat.le_refl _) _
  refine ⟨hbx, ?_, set4_block ((hb.block _ (lt_of_block h.var)).trans h.var), hm, hn.below hb2x⟩
  iterate 4 rw [Below.heap_setCell _ _ _ _ (by show w.heap.size + 1 ≠ w.heap.size; omega)]
  exact (hb.block _ (lt_of_block h.res)).trans h.res

set_option maxRecDepth 100000 in
set_option maxHeartbeats 4000000 in
theorem tget_any (d : Nat) (w : World) (v : Value) (n : NT) (A : Option Addr) (p : List Int) (lp c : Nat) (hlp : p.length = lp) (hl : lp ≤ 1000000) (hn : NodeAt d w w.heap.size v n) (hp : IL w w.heap.size A p) :
    Calls Try.prog 12 #[v, .slice A lp c] w (NewN (getE n p) w) := by
  obtain ⟨lf, PA, np, pc, TA, nt, tc, KA, nk, kc, rfl⟩ := hn.val
  have HL0 := hd (get_start (p := p) hn)
  have HP := hd hp
  have HLP := hd hlp
  clear hn hp hlp
  go_enter Try.func12, Try.ntmps12
  go_wp2
  go_loopw [10] (fun i wr => ∃ (k : Nat) (lf : Bool) (PA : Option Addr) (np pc : Nat) (TA : Option Addr) (nt tc : Nat) (KA : Option Addr) (nk kc : Nat) (m : NT), k ≤ lp ∧ i = .int .i64 k ∧ Hid (GetLoop w d n p k lf PA np pc TA nt tc KA nk kc m wr)) (fun i _ => lp - (intOf i).toNat)
  case atStart => exact ⟨0, _, _, _, _, _, _, _, _, _, _, n, Nat.zero_le _, rfl, HL0⟩
  case round =>
    clear HL0
    obtain ⟨k, lf, PA, np, pc, TA, nt, tc, KA, nk, kc, m, hk, rfl, HL⟩ := hrel
    have hbr := HL.out.below
    have hsz := hbr.size
    obtain ⟨x0, x1, x2, x3, y0, y1, y2, y3⟩ := blkCells HL.out.var
    obtain ⟨z0, z1, z2, z3, f0, f1, f2, f3⟩ := blkCells HL.out.res
    have hl1 := lt_of_block HL.out.res
    by_cases hlt : k < lp
    · obtain ⟨b, o, rfl, hbl, hc⟩ := (HP.out.below hbr).at_ (k := k) (by rw [HLP.out]; exact hlt)
      obtain ⟨i, hi⟩ : ∃ i, iAt p k = i := ⟨_, rfl⟩
      rw [hi] at hc
      have hnode := HL.out.node
      obtain ⟨d', lf', ps, tx, ks, PA', pc', TA', tc', KA', kc', hd', hm', ev, hps, htx, hfit, hks⟩ := hnode.open_
      simp only [Value.agg.injEq, Array.mk.injEq, List.cons.injEq, Value.bool.injEq, Value.slice.injEq, and_true] at ev
      obtain ⟨rfl, ⟨rfl, rfl, rfl⟩, ⟨rfl, rfl, rfl⟩, rfl, rfl, rfl⟩ := ev
      have hl3 := hfit.2.2.2.1
      cases hb : hasB m i
      · have HE := hd (getE_none (getO_stop (by rw [HLP.out]; exact hlt) HL.out.at_ (by rw [hi]; exact kid_none hb)))
        have HC := hd (haskid_any m i false hb d wr _ ((hnode.more hsz)))
        have HBR := hd hbr
        have HRES := hd HL.out.res
        have hnk : m.ks.length = ks.length := by rw [hm']; rfl
        have hno : i < 0 ∨ 0 ≤ i ∧ (ks.length : Int) ≤ i := by
          rcases (show i < 0 ∨ 0 ≤ i by omega) with h | h
          · exact .inl h
          · refine .inr ⟨h, ?_⟩
            rcases (show (ks.length : Int) ≤ i ∨ i < ks.length by omega) with h2 | h2
            · exact h2
            · rw [hasB_iff.2 ⟨h, by rw [hnk]; exact h2⟩] at hb; cases hb
        clear hnode hps htx hfit hks hb hi hm' hd' hbr hnk
        rcases hno with g1 | ⟨g1, g2⟩
        all_goals
          go_wp2_with (first | (go_at_call 37; refine HC.out.mono ?_; rintro e w2 ⟨rfl, b2⟩; have HR2 := hd (keepBlk HRES.out b2); have hl2 := b2.size; obtain ⟨r0, r1, r2, r3, r4, r5, r6, r7⟩ := blkCells HR2.out))
          have h7 := set4_block (a := .bool false) (b := .slice none 0 0) (c := .slice none 0 0) (d := .slice none 0 0) (by first | exact HR2.out | exact HRES.out)
          obtain ⟨t0, t1, t2, t3, _, _, _, _⟩ := blkCells h7
          refine bodyPost_ret (v := .tuple #[.agg #[.bool false, .slice none 0 0, .slice none 0 0, .slice none 0 0], .int .i64 5]) (by simp [results, Try.results12, go_sem, t0, t1, t2, t3]) rfl (newN_ret HE.out (zero_tree _ 0 _) ?_)
          exact ((((show Below w.heap.size w _ from (by first | exact HBR.out.trans (b2.mono HBR.out.size) | exact HBR.out)).setCell (by show _ ≤ w.heap.size + 1; omega) _).setCell (by show _ ≤ w.heap.size + 1; omega) _).setCell (by show _ ≤ w.heap.size + 1; omega) _).setCell (by show _ ≤ w.heap.size + 1; omega) _
      · have HK := hd (hasB_iff.1 hb)
        obtain ⟨j, hj⟩ : ∃ j : Nat, i = (j : Int) := ⟨i.toNat, by have := HK.out; omega⟩
        subst hj
        have hj1 : j < ks.length := by have := HK.out; rw [hm'] at this; simp only [NT.ks] at this; omega
        have HC := hd (haskid_any m (j : Int) true hb d wr _ ((hnode.more hsz)))
        have HKS := hd hks
        have HI := hd hi
        have HM := hd hm'
        have HD := hd hd'
        have HBR := hd hbr
        clear hnode hps htx hfit hks hb hi hm' hd' z0 z1 z2 z3 f0 f1 f2 f3 hbr
        have HVAR := hd HL.out.var
        obtain ⟨m2, b', o', lf2, PA2, np2, pc2, TA2, nt2, tc2, KA2, nk2, kc2, hm2, rfl, hbg2, hnm2, c0, c1, c2, c3⟩ := HKS.out.at_ hj1
        have hg := hd (show getO n (p.take (k + 1)) = some m2 by rw [getO_take_step (by rw [HLP.out]; exact hlt) HL.out.at_, HI.out]; unfold kidT; rw [if_pos (by omega), HM.out]; exact hm2)
        have HN2 := hd (hnm2.deep (d' := d) (by have := HD.out; omega))
        have HM2 := hd hm2
        clear hnm2 hm2
        go_wp2_with (first | (go_at_call 37; refine HC.out.mono ?_; rintro e w2 ⟨rfl, b2⟩; have hl2 := b2.size; obtain ⟨u0, u1, u2, u3, u4, u5, u6, u7⟩ := blkCells (keepBlk HVAR.out b2); have e0 := (b2.cell (cell_in c0)).trans c0; have e1 := (b2.cell (cell_in c1)).trans c1; have e2 := (b2.cell (cell_in c2)).trans c2; have e3 := (b2.cell (cell_in c3)).trans c3; clear c0 c1 c2 c3 x0 x1 x2 x3 y0 y1 y2 y3))
        go_roundw
        case rel => exact ⟨k + 1, _, _, _, _, _, _, _, _, _, _, m2, by omega, by go_num, hd (get_step HL.out (by first | exact b2 | exact Below.refl _ _) hg.out (by first | exact HN2.out.below (b2.mono hsz) | exact HN2.out))⟩
        case measure => simp [intOf]; omega
    · have HE := hd (getE_some (n := n) (m := m) (p := p) (by have := HL.out.at_; rwa [List.take_of_length_le (by rw [HLP.out]; omega)] at this))
      have HRES := hd HL.out.res
      have HBR := hd hbr
      have HN := hd (HL.out.node.more hsz)
      clear z0 z1 z2 z3 f0 f1 f2 f3 hbr
      go_wp2_with (first | (go_at_call 38; refine Calls.mono (copy_any _ _ _ _ HN.out) ?_; intro e w4 h4; obtain ⟨v4, rfl, ht4, hb4⟩ := h4; obtain ⟨lf4, PA4, np4, pc4, TA4, nt4, tc4, KA4, nk4, kc4, rfl⟩ := (ht4.at_ (B := w4.heap.size) (fun b hb => hb.2)).val; have HR4 := hd (keepBlk HRES.out hb4); obtain ⟨r0, r1, r2, r3, r4, r5, r6, r7⟩ := blkCells HR4.out; have HT4 := hd ht4; have HB4 := hd hb4; have hl4 := hb4.size; clear ht4 hb4))
      have h7 := set4_block (a := .bool lf4) (b := .slice PA4 np4 pc4) (c := .slice TA4 nt4 tc4) (d := .slice KA4 nk4 kc4) HR4.out
      obtain ⟨t0, t1, t2, t3, _, _, _, _⟩ := blkCells h7
      have hb7 : Below w.heap.size w w4 := HBR.out.trans (HB4.out.mono HBR.out.size)
      refine bodyPost_ret (v := .tuple #[.agg #[.bool lf4, .slice PA4 np4 pc4, .slice TA4 nt4 tc4, .slice KA4 nk4 kc4], .int .i64 0]) (by simp [results, Try.results12, go_sem, t0, t1, t2, t3]) rfl (newN_ret (d := d) HE.out (HT4.out.keep (fun b hb => by simp; omega) (fun p hp => ?_)) ?_)
      · have hne : p.block ≠ w.heap.size + 1 := by omega
        constructor
        · iterate 4 rw [World.cell?_setCell_other _ _ _ _ (by intro e; exact hne (by rw [← e]))]
        · iterate 4 rw [World.frozen?_of_block (Below.heap_setCell _ _ _ _ (by simpa using hne))]
      · exact (((hb7.setCell (by show _ ≤ w.heap.size + 1; omega) _).setCell (by show _ ≤ w.heap.size + 1; omega) _).setCell (by show _ ≤ w.heap.size + 1; omega) _).setCell (by show _ ≤ w.heap.size + 1; omega) _
set_option maxRecDepth 100000 in
set_option maxHeartbeats 4000000 in
theorem rtget_any (d : Nat) (w : World) (v : Value) (n : NT) (A : Option Addr) (p : List Int) (lp c : Nat) (hlp : p.length = lp) (hl : lp ≤ 1000000) (hn : NodeAt d w w.heap.size v n) (hp : IL w w.heap.size A p) :
    Calls Try.prog 13 #[v, .slice A lp c] w (NewN (getE n p) w) := by
  obtain ⟨lf, PA, np, pc, TA, nt, tc, KA, nk, kc, rfl⟩ := hn.val
  have HL0 := hd (get_start (p := p) hn)
  have HP := hd hp
  have HLP := hd hlp
  clear hn hp hlp
  go_enter Try.func13, Try.ntmps13
  go_wp2
  go_loopw [10] (fun i wr => ∃ (k : Nat) (lf : Bool) (PA : Option Addr) (np pc : Nat) (TA : Option Addr) (nt tc : Nat) (KA : Option Addr) (nk kc : Nat) (m : NT), k ≤ lp ∧ i = .int .i64 k ∧ Hid (GetLoop w d n p k lf PA np pc TA nt tc KA nk kc m wr)) (fun i _ => lp - (intOf i).toNat)
  case atStart => exact ⟨0, _, _, _, _, _, _, _, _, _, _, n, Nat.zero_le _, rfl, HL0⟩
  case round =>
    clear HL0
    obtain ⟨k, lf, PA, np, pc, TA, nt, tc, KA, nk, kc, m, hk, rfl, HL⟩ := hrel
    have hbr := HL.out.below
    have hsz := hbr.size
    obtain ⟨x0, x1, x2, x3, y0, y1, y2, y3⟩ := blkCells HL.out.var
    obtain ⟨z0, z1, z2, z3, f0, f1, f2, f3⟩ := blkCells HL.out.res
    have hl1 := lt_of_block HL.out.res
    by_cases hlt : k < lp
    · obtain ⟨b, o, rfl, hbl, hc⟩ := (HP.out.below hbr).at_ (k := k) (by rw [HLP.out]; exact hlt)
      obtain ⟨i, hi⟩ : ∃ i, iAt p k = i := ⟨_, rfl⟩
      rw [hi] at hc
      have hnode := HL.out.node
      obtain ⟨d', lf', ps, tx, ks, PA', pc', TA', tc', KA', kc', hd', hm', ev, hps, htx, hfit, hks⟩ := hnode.open_
      simp only [Value.agg.injEq, Array.mk.injEq, List.cons.injEq, Value.bool.injEq, Value.slice.injEq, and_true] at ev
      obtain ⟨rfl, ⟨rfl, rfl, rfl⟩, ⟨rfl, rfl, rfl⟩, rfl, rfl, rfl⟩ := ev
      have hl3 := hfit.2.2.2.1
      cases hb : hasB m i
      · have HE := hd (getE_none (getO_stop (by rw [HLP.out]; exact hlt) HL.out.at_ (by rw [hi]; exact kid_none hb)))
        have HC := hd (haskid_any m i false hb d wr _ ((hnode.more hsz)))
        have HBR := hd hbr
        have HRES := hd HL.out.res
        have hnk : m.ks.length = ks.length := by rw [hm']; rfl
        have hno : i < 0 ∨ 0 ≤ i ∧ (ks.length : Int) ≤ i := by
          rcases (show i < 0 ∨ 0 ≤ i by omega) with h | h
          · exact .inl h
          · refine .inr ⟨h, ?_⟩
            rcases (show (ks.length : Int) ≤ i ∨ i < ks.length by omega) with h2 | h2
            · exact h2
            · rw [hasB_iff.2 ⟨h, by rw [hnk]; exact h2⟩] at hb; cases hb
        clear hnode hps htx hfit hks hb hi hm' hd' hbr hnk
        rcases hno with g1 | ⟨g1, g2⟩
        all_goals
          go_wp2_with (first | (go_at_call 37; refine HC.out.mono ?_; rintro e w2 ⟨rfl, b2⟩; have HR2 := hd (keepBlk HRES.out b2); have hl2 := b2.size; obtain ⟨r0, r1, r2, r3, r4, r5, r6, r7⟩ := blkCells HR2.out))
          have h7 := set4_block (a := .bool false) (b := .slice none 0 0) (c := .slice none 0 0) (d := .slice none 0 0) (by first | exact HR2.out | exact HRES.out)
          obtain ⟨t0, t1, t2, t3, _, _, _, _⟩ := blkCells h7
          refine bodyPost_ret (v := .tuple #[.agg #[.bool false, .slice none 0 0, .slice none 0 0, .slice none 0 0], .int .i64 5]) (by simp [results, Try.results13, go_sem, t0, t1, t2, t3]) rfl (newN_ret HE.out (zero_tree _ 0 _) ?_)
          exact ((((show Below w.heap.size w _ from (by first | exact HBR.out.trans (b2.mono HBR.out.size) | exact HBR.out)).setCell (by show _ ≤ w.heap.size + 1; omega) _).setCell (by show _ ≤ w.heap.size + 1; omega) _).setCell (by show _ ≤ w.heap.size + 1; omega) _).setCell (by show _ ≤ w.heap.size + 1; omega) _
      · have HK := hd (hasB_iff.1 hb)
        obtain ⟨j, hj⟩ : ∃ j : Nat, i = (j : Int) := ⟨i.toNat, by have := HK.out; omega⟩
        subst hj
        have hj1 : j < ks.length := by have := HK.out; rw [hm'] at this; simp only [NT.ks] at this; omega
        have HC := hd (haskid_any m (j : Int) true hb d wr _ ((hnode.more hsz)))
        have HKS := hd hks
        have HI := hd hi
        have HM := hd hm'
        have HD := hd hd'
        have HBR := hd hbr
        clear hnode hps htx hfit hks hb hi hm' hd' z0 z1 z2 z3 f0 f1 f2 f3 hbr
        have HVAR := hd HL.out.var
        obtain ⟨m2, b', o', lf2, PA2, np2, pc2, TA2, nt2, tc2, KA2, nk2, kc2, hm2, rfl, hbg2, hnm2, c0, c1, c2, c3⟩ := HKS.out.at_ hj1
        have hg := hd (show getO n (p.take (k + 1)) = some m2 by rw [getO_take_step (by rw [HLP.out]; exact hlt) HL.out.at_, HI.out]; unfold kidT; rw [if_pos (by omega), HM.out]; exact hm2)
        have HN2 := hd (hnm2.deep (d' := d) (by have := HD.out; omega))
        have HM2 := hd hm2
        clear hnm2 hm2
        go_wp2_with (first | (go_at_call 37; refine HC.out.mono ?_; rintro e w2 ⟨rfl, b2⟩; have hl2 := b2.size; obtain ⟨u0, u1, u2, u3, u4, u5, u6, u7⟩ := blkCells (keepBlk HVAR.out b2); have e0 := (b2.cell (cell_in c0)).trans c0; have e1 := (b2.cell (cell_in c1)).trans c1; have e2 := (b2.cell (cell_in c2)).trans c2; have e3 := (b2.cell (cell_in c3)).trans c3; clear c0 c1 c2 c3 x0 x1 x2 x3 y0 y1 y2 y3))
        go_roundw
        case rel => exact ⟨k + 1, _, _, _, _, _, _, _, _, _, _, m2, by omega, by go_num, hd (get_step HL.out (by first | exact b2 | exact Below.refl _ _) hg.out (by first | exact HN2.out.below (b2.mono hsz) | exact HN2.out))⟩
        case measure => simp [intOf]; omega
    · have HE := hd (getE_some (n := n) (m := m) (p := p) (by have := HL.out.at_; rwa [List.take_of_length_le (by rw [HLP.out]; omega)] at this))
      have HRES := hd HL.out.res
      have HBR := hd hbr
      have HN := hd (HL.out.node.more hsz)
      clear z0 z1 z2 z3 f0 f1 f2 f3 hbr
      go_wp2_with (first | (go_at_call 11; refine Calls.mono (rncopy_any _ _ _ _ HN.out) ?_; intro e w4 h4; obtain ⟨v4, rfl, ht4, hb4⟩ := h4.copied; obtain ⟨lf4, PA4, np4, pc4, TA4, nt4, tc4, KA4, nk4, kc4, rfl⟩ := (ht4.at_ (B := w4.heap.size) (fun b hb => hb.2)).val; have HR4 := hd (keepBlk HRES.out hb4); obtain ⟨r0, r1, r2, r3, r4, r5, r6, r7⟩ := blkCells HR4.out; have HT4 := hd ht4; have HB4 := hd hb4; have hl4 := hb4.size; clear ht4 hb4))
      have h7 := set4_block (a := .bool lf4) (b := .slice PA4 np4 pc4) (c := .slice TA4 nt4 tc4) (d := .slice KA4 nk4 kc4) HR4.out
      obtain ⟨t0, t1, t2, t3, _, _, _, _⟩ := blkCells h7
      have hb7 : Below w.heap.size w w4 := HBR.out.trans (HB4.out.mono HBR.out.size)
      refine bodyPost_ret (v := .tuple #[.agg #[.bool lf4, .slice PA4 np4 pc4, .slice TA4 nt4 tc4, .slice KA4 nk4 kc4], .int .i64 0]) (by simp [results, Try.results13, go_sem, t0, t1, t2, t3]) rfl (newN_ret (d := d) HE.out (HT4.out.keep (fun b hb => by simp; omega) (fun p hp => ?_)) ?_)
      · have hne : p.block ≠ w.heap.size + 1 := by omega
        constructor
        · iterate 4 rw [World.cell?_setCell_other _ _ _ _ (by intro e; exact hne (by rw [← e]))]
        · iterate 4 rw [World.frozen?_of_block (Below.heap_setCell _ _ _ _ (by simpa using hne))]
      · exact (((hb7.setCell (by show _ ≤ w.heap.size + 1; omega) _).setCell (by show _ ≤ w.heap.size + 1; omega) _).setCell (by show _ ≤ w.heap.size + 1; omega) _).setCell (by show _ ≤ w.heap.size + 1; omega) _

end Go.Proofs.Ytggapngibkeodaa
