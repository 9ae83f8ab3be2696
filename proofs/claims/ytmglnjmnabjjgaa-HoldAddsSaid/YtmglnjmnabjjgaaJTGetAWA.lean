/- hasKid, Get, and the document's Get. Get, and the document's, told plainly. A row of nodes that a call makes out of the Kids of others. A point's own copy; a range's points in order, the program's and the document's. Points of a tree: plain functions and facts; the last leaf that stands ahead of a path, the first one that does not; no program is named here. What is told: First, Last, Ahead, Behind. Points as a law holds them: the calls on two of them, in any later world. Refs: plain functions and facts; no program is named here. Whether a point is a tree's (Check), the program's and the document's. -/
import Derived.Test.YtmglnjmnabjjgaaJNCopyOWA
import Derived.Test.YtmglnjmnabjjgaaJKCmp
import Derived.Test.YtmglnjmnabjjgaaJGText
import Derived.Test.YtmglnjmnabjjgaaJGTextWA
import Derived.Laws.Strings
import Derived.Laws.AppendOwnNone
import Derived.IntWalk
import Derived.Shelf.Abstract
import Derived.StillTailTactics
import Derived.ArgAppend
import Derived.Lib.SliceRun
import Derived.Deep.RegionHeld3
namespace Go.Proofs.Ytmglnjmnabjjgaa
open Go.RowKit

theorem haskid_any (n : NT) (i : Int) (r : Bool) (hr : hasB n i = r) (d : Nat) (w : World) (v : Value) (hn : NodeAt d w w.heap.size v n) :
    Calls Try.prog 69 #[v, .int .i64 i] w (Still (.bool r) w) := by
  obtain ⟨d', lf, ps, tx, ks, PA, pc, TA, tc, KA, kc, hd', rfl, rfl, hp, ht, hf, hks⟩ := hn.open_
  have hl3 := hf.2.2.2.1
  have HB := hd (show Below w.heap.size w (w.alloc (.cells #[.bool lf, .slice PA ps.length pc, .slice TA tx.length tc, .slice KA ks.length kc] 26)) from (Below.refl _ _).alloc (Nat.le_refl _) _)
  have hr' : (decide (0 ≤ i) && decide (i < ks.length)) = r := hr
  clear hn hp ht hf hks hd' hr
  by_cases h1 : 0 ≤ i
  · by_cases h2 : i < ks.length
    · have HF := hd (show r = true by rw [← hr']; simp [h1, h2])
      clear hr'
      go_enter Try.func69, Try.ntmps69
      go_wp2
      go_ret
      exact ⟨ret_bool HF.out.symm, HB.out⟩
    · have HF := hd (show r = false by rw [← hr']; simp [h2])
      have h3 : decide (i < (ks.length : Int)) = false := decide_eq_false h2
      clear hr'
      go_enter Try.func69, Try.ntmps69
      go_wp2
      go_ret
      exact ⟨ret_bool HF.out.symm, HB.out⟩
  · have HF := hd (show r = false by rw [← hr']; simp [h1])
    have h3 : decide (0 ≤ i) = false := decide_eq_false h1
    clear hr'
    go_enter Try.func69, Try.ntmps69
    go_wp2
    go_ret
    exact ⟨ret_bool HF.out.symm, HB.out⟩

/-- A new tree, and an error's number. -/
def NewN (r : NT × Int) (w : World) (e : Ending) (w' : World) : Prop :=
  ∃ v d, e = .returned (.tuple #[v, .int .i64 r.2]) ∧ TreeP (fun b => w.heap.size ≤ b ∧ b < w'.heap.size) d w' v r.1 ∧ Below w.heap.size w w'
/-- How far down the path: the node there, in the call's own variable. -/
structure GetLoop (w : World) (d : Nat) (n : NT) (p : List Int) (k : Nat) (lf : Bool) (PA : Option Addr) (np pc : Nat) (TA : Option Addr) (nt tc : Nat) (KA : Option Addr) (nk kc : Nat) (m : NT) (wr : World) : Prop where
  below : Below w.heap.size w wr
  res : wr.heap[w.heap.size + 1]? = some (.cells #[.bool false, .slice none 0 0, .slice none 0 0, .slice none 0 0] 26 (0, 0))
  var : wr.heap[w.heap.size]? = some (.cells #[.bool lf, .slice PA np pc, .slice TA nt tc, .slice KA nk kc] 26 (0, 0))
  at_ : getO n (p.take k) = some m
  node : NodeAt d wr w.heap.size (.agg #[.bool lf, .slice PA np pc, .slice TA nt tc, .slice KA nk kc]) m

set_option maxRecDepth 4000 in
theorem two_boxes (w : World) (a b c d : Value) (t : TypeId) (a' b' c' d' : Value) (t' : TypeId) :
    ((w.alloc (.cells #[a, b, c, d] t)).alloc (.cells #[a', b', c', d'] t')).heap[w.heap.size]? = some (.cells #[a, b, c, d] t (0, 0)) ∧ ((w.alloc (.cells #[a, b, c, d] t)).alloc (.cells #[a', b', c', d'] t')).heap[w.heap.size + 1]? = some (.cells #[a', b', c', d'] t' (0, 0)) := by
  refine ⟨?_, ?_⟩
  · rw [Below.heap_alloc _ _ _ (by simp)]; exact heap_alloc_new _ _
  · rw [← sz1 (w := w) (A := .cells #[a, b, c, d] t)]; exact heap_alloc_new _ _
set_option maxRecDepth 4000 in
theorem get_start {w : World} {d : Nat} {n : NT} {p : List Int} {lf : Bool} {PA : Option Addr} {np pc : Nat} {TA : Option Addr} {nt tc : Nat} {KA : Option Addr} {nk kc : Nat} (hn : NodeAt d w w.heap.size (.agg #[.bool lf, .slice PA np pc, .slice TA nt tc, .slice KA nk kc]) n) :
    GetLoop w d n p 0 lf PA np pc TA nt tc KA nk kc n ((w.alloc (.cells #[.bool lf, .slice PA np pc, .slice TA nt tc, .slice KA nk kc] 26)).alloc (.cells #[.bool false, .slice none 0 0, .slice none 0 0, .slice none 0 0] 26)) := by
  have hb := below_mono2 (w := w) (w' := w) (o := (.cells #[.bool lf, .slice PA np pc, .slice TA nt tc, .slice KA nk kc] 26)) (o' := (.cells #[.bool false, .slice none 0 0, .slice none 0 0, .slice none 0 0] 26)) (Below.refl _ _) (Nat.le_refl w.heap.size)
  obtain ⟨h1, h2⟩ := two_boxes w (.bool lf) (.slice PA np pc) (.slice TA nt tc) (.slice KA nk kc) 26 (.bool false) (.slice none 0 0) (.slice none 0 0) (.slice none 0 0) 26
  exact ⟨hb, h2, h1, rfl, hn.below hb⟩
set_option maxRecDepth 4000 in
theorem get_step {w wr w2 : World} {d : Nat} {n m m2 : NT} {p : List Int} {k : Nat} {lf : Bool} {PA : Option Addr} {np pc : Nat} {TA : Option Addr} {nt tc : Nat} {KA : Option Addr} {nk kc : Nat} {lf2 : Bool} {PA2 : Option Addr} {np2 pc2 : Nat} {TA2 : Option Addr} {nt2 tc2 : Nat} {KA2 : Option Addr} {nk2 kc2 : Nat}
    (h : GetLoop w d n p k lf PA np pc TA nt tc KA nk kc m wr) (hb : Below wr.heap.size wr w2) (hm : getO n (p.take (k + 1)) = some m2) (hn : NodeAt d w2 w.heap.size (.agg #[.bool lf2, .slice PA2 np2 pc2, .slice TA2 nt2 tc2, .slice KA2 nk2 kc2]) m2) :
    GetLoop w d n p (k + 1) lf2 PA2 np2 pc2 TA2 nt2 tc2 KA2 nk2 kc2 m2 ((((w2.setCell ⟨w.heap.size, 0, none⟩ (.bool lf2)).setCell ⟨w.heap.size, 1, none⟩ (.slice PA2 np2 pc2)).setCell ⟨w.heap.size, 2, none⟩ (.slice TA2 nt2 tc2)).setCell ⟨w.heap.size, 3, none⟩ (.slice KA2 nk2 kc2)) := by
  have hs := h.below.size
  have hb2 : Below w.heap.size w w2 := h.below.trans (hb.mono hs)
  have hbx : Below w.heap.size w ((((w2.setCell ⟨w.heap.size, 0, none⟩ (.bool lf2)).setCell ⟨w.heap.size, 1, none⟩ (.slice PA2 np2 pc2)).setCell ⟨w.heap.size, 2, none⟩ (.slice TA2 nt2 tc2)).setCell ⟨w.heap.size, 3, none⟩ (.slice KA2 nk2 kc2)) := (((hb2.setCell (Nat.le_refl _) _).setCell (Nat.le_refl _) _).setCell (Nat.le_refl _) _).setCell (Nat.le_refl _) _
  have hb2x : Below w.heap.size w2 ((((w2.setCell ⟨w.heap.size, 0, none⟩ (.bool lf2)).setCell ⟨w.heap.size, 1, none⟩ (.slice PA2 np2 pc2)).setCell ⟨w.heap.size, 2, none⟩ (.slice TA2 nt2 tc2)).setCell ⟨w.heap.size, 3, none⟩ (.slice KA2 nk2 kc2)) := ((((Below.refl w.heap.size w2).setCell (Nat.le_refl _) _).setCell (Nat.le_refl _) _).setCell (Nat.le_refl _) _).setCell (Nat.le_refl _) _
  refine ⟨hbx, ?_, set4_block ((hb.block _ (lt_of_block h.var)).trans h.var), hm, hn.below hb2x⟩
  iterate 4 rw [Below.heap_setCell _ _ _ _ (by show w.heap.size + 1 ≠ w.heap.size; omega)]
  exact (hb.block _ (lt_of_block h.res)).trans h.res

/-- A node told, its rows its own; or none. -/
def NewNO (r : NT × Int) (w : World) (e : Ending) (w' : World) : Prop :=
  ∃ v d, e = .returned (.tuple #[v, .int .i64 r.2]) ∧ TopO w.heap.size d w' v r.1 ∧ Below w.heap.size w w'
set_option maxRecDepth 4000 in
theorem newNO_ret {r : NT × Int} {n : NT} {e : Int} {w w' : World} {v : Value} {d : Nat} (h : r = (n, e)) (ht : TopO w.heap.size d w' v n) (hb : Below w.heap.size w w') : NewNO r w (.returned (.tuple #[v, .int .i64 e])) w' := by
  subst h; exact ⟨v, d, rfl, ht, hb⟩
set_option maxRecDepth 4000 in
theorem zero_topO (base d : Nat) (w : World) : TopO base d w (.agg #[.bool false, .slice none 0 0, .slice none 0 0, .slice none 0 0]) zeroT :=
  ⟨none, 0, none, 0, none, 0, [], rfl, World.ownsRow_nil _ _ _ _, World.ownsRow_nil _ _ _ _, World.ownsRow_nil _ _ _ _, fit_zero, rfl, fun j m h => by simp [zeroT, NT.ks] at h⟩

set_option maxRecDepth 100000 in
set_option maxHeartbeats 4000000 in
theorem tgetO_any (d : Nat) (w : World) (v : Value) (n : NT) (A : Option Addr) (p : List Int) (lp c : Nat) (hlp : p.length = lp) (hl : lp ≤ 10000000) (hn : NodeAt d w w.heap.size v n) (hp : IL w w.heap.size A p) :
    Calls Try.prog 57 #[v, .slice A lp c] w (NewNO (getE n p) w) := by
  obtain ⟨lf, PA, np, pc, TA, nt, tc, KA, nk, kc, rfl⟩ := hn.val
  have HL0 := hd (get_start (p := p) hn)
  have HP := hd hp
  have HLP := hd hlp
  clear hn hp hlp
  go_enter Try.func57, Try.ntmps57
  go_wp2
  go_loopw [10] (fun i wr => ∃ (k : Nat) (lf : Bool) (PA : Option Addr) (np pc : Nat) (TA : Option Addr) (nt tc : Nat) (KA : Option Addr) (nk kc : Nat) (m : NT), k ≤ lp ∧ i = .int .i64 k ∧ Hid (GetLoop w d n p k lf PA np pc TA nt tc KA nk kc m wr)) (fun i _ => lp - (intOf i).toNat)
  case atStart => exact ⟨0, _, _, _, _, _, _, _, _, _, _, n, Nat.zero_le _, rfl, HL0⟩
  case round =>
    clear HL0
    obtain ⟨k, lf, PA, np, pc, TA, nt, tc, KA, nk, kc, m, hk, rfl, HL⟩ := hrel
    have hbr := HL.out.below
    have hsz := hbr.size
    obtain ⟨x0, x1, x2, x3, y0, y1, y2, y3⟩ := blkCells HL.out.var
    obtain ⟨z0, z1, z2, z3, f0, f1, f2, f3⟩ := blkCells HL.out.res
    have hl1 := lt_of_block HL.out.res
    by_cases hlt : k < lp
    · obtain ⟨b, o, rfl, hbl, hc⟩ := (HP.out.below hbr).at_ (k := k) (by rw [HLP.out]; exact hlt)
      obtain ⟨i, hi⟩ : ∃ i, iAt p k = i := ⟨_, rfl⟩
      rw [hi] at hc
      have hnode := HL.out.node
      obtain ⟨d', lf', ps, tx, ks, PA', pc', TA', tc', KA', kc', hd', hm', ev, hps, htx, hfit, hks⟩ := hnode.open_
      simp only [Value.agg.injEq, Array.mk.injEq, List.cons.injEq, Value.bool.injEq, Value.slice.injEq, and_true] at ev
      obtain ⟨rfl, ⟨rfl, rfl, rfl⟩, ⟨rfl, rfl, rfl⟩, rfl, rfl, rfl⟩ := ev
      have hl3 := hfit.2.2.2.1
      cases hb : hasB m i
      · have HE := hd (getE_none (getO_stop (by rw [HLP.out]; exact hlt) HL.out.at_ (by rw [hi]; exact kid_none hb)))
        have HC := hd (haskid_any m i false hb d wr _ ((hnode.more hsz)))
        have HBR := hd hbr
        have HRES := hd HL.out.res
        have hnk : m.ks.length = ks.length := by rw [hm']; rfl
        have hno : i < 0 ∨ 0 ≤ i ∧ (ks.length : Int) ≤ i := by
          rcases (show i < 0 ∨ 0 ≤ i by omega) with h | h
          · exact .inl h
          · refine .inr ⟨h, ?_⟩
            rcases (show (ks.length : Int) ≤ i ∨ i < ks.length by omega) with h2 | h2
            · exact h2
            · rw [hasB_iff.2 ⟨h, by rw [hnk]; exact h2⟩] at hb; cases hb
        clear hnode hps htx hfit hks hb hi hm' hd' hbr hnk
        rcases hno with g1 | ⟨g1, g2⟩
        all_goals
          go_wp2_with (first | (go_at_call 69; refine HC.out.mono ?_; rintro e w2 ⟨rfl, b2⟩; have HR2 := hd (keepBlk HRES.out b2); have hl2 := b2.size; obtain ⟨r0, r1, r2, r3, r4, r5, r6, r7⟩ := blkCells HR2.out))
          have h7 := set4_block (a := .bool false) (b := .slice none 0 0) (c := .slice none 0 0) (d := .slice none 0 0) (by first | exact HR2.out | exact HRES.out)
          obtain ⟨t0, t1, t2, t3, _, _, _, _⟩ := blkCells h7
          refine bodyPost_ret (v := .tuple #[.agg #[.bool false, .slice none 0 0, .slice none 0 0, .slice none 0 0], .int .i64 5]) (by simp [results, Try.results57, go_sem, t0, t1, t2, t3]) rfl (newNO_ret HE.out (zero_topO _ 0 _) ?_)
          exact ((((show Below w.heap.size w _ from (by first | exact HBR.out.trans (b2.mono HBR.out.size) | exact HBR.out)).setCell (by show _ ≤ w.heap.size + 1; omega) _).setCell (by show _ ≤ w.heap.size + 1; omega) _).setCell (by show _ ≤ w.heap.size + 1; omega) _).setCell (by show _ ≤ w.heap.size + 1; omega) _
      · have HK := hd (hasB_iff.1 hb)
        obtain ⟨j, hj⟩ : ∃ j : Nat, i = (j : Int) := ⟨i.toNat, by have := HK.out; omega⟩
        subst hj
        have hj1 : j < ks.length := by have := HK.out; rw [hm'] at this; simp only [NT.ks] at this; omega
        have HC := hd (haskid_any m (j : Int) true hb d wr _ ((hnode.more hsz)))
        have HKS := hd hks
        have HI := hd hi
        have HM := hd hm'
        have HD := hd hd'
        have HBR := hd hbr
        clear hnode hps htx hfit hks hb hi hm' hd' z0 z1 z2 z3 f0 f1 f2 f3 hbr
        have HVAR := hd HL.out.var
        obtain ⟨m2, b', o', lf2, PA2, np2, pc2, TA2, nt2, tc2, KA2, nk2, kc2, hm2, rfl, hbg2, hnm2, c0, c1, c2, c3⟩ := HKS.out.at_ hj1
        have hg := hd (show getO n (p.take (k + 1)) = some m2 by rw [getO_take_step (by rw [HLP.out]; exact hlt) HL.out.at_, HI.out]; unfold kidT; rw [if_pos (by omega), HM.out]; exact hm2)
        have HN2 := hd (hnm2.deep (d' := d) (by have := HD.out; omega))
        have HM2 := hd hm2
        clear hnm2 hm2
        go_wp2_with (first | (go_at_call 69; refine HC.out.mono ?_; rintro e w2 ⟨rfl, b2⟩; have hl2 := b2.size; obtain ⟨u0, u1, u2, u3, u4, u5, u6, u7⟩ := blkCells (keepBlk HVAR.out b2); have e0 := (b2.cell (cell_in c0)).trans c0; have e1 := (b2.cell (cell_in c1)).trans c1; have e2 := (b2.cell (cell_in c2)).trans c2; have e3 := (b2.cell (cell_in c3)).trans c3; clear c0 c1 c2 c3 x0 x1 x2 x3 y0 y1 y2 y3))
        go_roundw
        case rel => exact ⟨k + 1, _, _, _, _, _, _, _, _, _, _, m2, by omega, by go_num, hd (get_step HL.out (by first | exact b2 | exact Below.refl _ _) hg.out (by first | exact HN2.out.below (b2.mono hsz) | exact HN2.out))⟩
        case measure => simp [intOf]; omega
    · have HE := hd (getE_some (n := n) (m := m) (p := p) (by have := HL.out.at_; rwa [List.take_of_length_le (by rw [HLP.out]; omega)] at this))
      have HRES := hd HL.out.res
      have HBR := hd hbr
      have HN := hd (HL.out.node.more hsz)
      clear z0 z1 z2 z3 f0 f1 f2 f3 hbr
      go_wp2_with (first | (go_at_call 70; refine Calls.mono (copyO_any _ _ _ _ HN.out) ?_; intro e w4 h4; obtain ⟨v4, rfl, ht4, hb4⟩ := h4; obtain ⟨lf4, PA4, np4, pc4, TA4, nt4, tc4, KA4, nk4, kc4, rfl⟩ := ht4.val; have HR4 := hd (keepBlk HRES.out hb4); obtain ⟨r0, r1, r2, r3, r4, r5, r6, r7⟩ := blkCells HR4.out; have HT4 := hd ht4; have HB4 := hd hb4; have hl4 := hb4.size; clear ht4 hb4))
      have h7 := set4_block (a := .bool lf4) (b := .slice PA4 np4 pc4) (c := .slice TA4 nt4 tc4) (d := .slice KA4 nk4 kc4) HR4.out
      obtain ⟨t0, t1, t2, t3, _, _, _, _⟩ := blkCells h7
      have hb7 : Below w.heap.size w w4 := HBR.out.trans (HB4.out.mono HBR.out.size)
      refine bodyPost_ret (v := .tuple #[.agg #[.bool lf4, .slice PA4 np4 pc4, .slice TA4 nt4 tc4, .slice KA4 nk4 kc4], .int .i64 0]) (by simp [results, Try.results57, go_sem, t0, t1, t2, t3]) rfl (newNO_ret HE.out ((HT4.out.keep (by simp) (fun b h1 _ => ?_)).base (by omega)) ?_)
      · have hne : b ≠ w.heap.size + 1 := by omega
        iterate 4 rw [Below.heap_setCell _ _ _ _ (by simpa using hne)]
      · exact (((hb7.setCell (by show _ ≤ w.heap.size + 1; omega) _).setCell (by show _ ≤ w.heap.size + 1; omega) _).setCell (by show _ ≤ w.heap.size + 1; omega) _).setCell (by show _ ≤ w.heap.size + 1; omega) _
set_option maxRecDepth 100000 in
set_option maxHeartbeats 4000000 in
theorem rtgetO_any (d : Nat) (w : World) (v : Value) (n : NT) (A : Option Addr) (p : List Int) (lp c : Nat) (hlp : p.length = lp) (hl : lp ≤ 10000000) (hn : NodeAt d w w.heap.size v n) (hp : IL w w.heap.size A p) :
    Calls Try.prog 28 #[v, .slice A lp c] w (NewNO (getE n p) w) := by
  obtain ⟨lf, PA, np, pc, TA, nt, tc, KA, nk, kc, rfl⟩ := hn.val
  have HL0 := hd (get_start (p := p) hn)
  have HP := hd hp
  have HLP := hd hlp
  clear hn hp hlp
  go_enter Try.func28, Try.ntmps28
  go_wp2
  go_loopw [10] (fun i wr => ∃ (k : Nat) (lf : Bool) (PA : Option Addr) (np pc : Nat) (TA : Option Addr) (nt tc : Nat) (KA : Option Addr) (nk kc : Nat) (m : NT), k ≤ lp ∧ i = .int .i64 k ∧ Hid (GetLoop w d n p k lf PA np pc TA nt tc KA nk kc m wr)) (fun i _ => lp - (intOf i).toNat)
  case atStart => exact ⟨0, _, _, _, _, _, _, _, _, _, _, n, Nat.zero_le _, rfl, HL0⟩
  case round =>
    clear HL0
    obtain ⟨k, lf, PA, np, pc, TA, nt, tc, KA, nk, kc, m, hk, rfl, HL⟩ := hrel
    have hbr := HL.out.below
    have hsz := hbr.size
    obtain ⟨x0, x1, x2, x3, y0, y1, y2, y3⟩ := blkCells HL.out.var
    obtain ⟨z0, z1, z2, z3, f0, f1, f2, f3⟩ := blkCells HL.out.res
    have hl1 := lt_of_block HL.out.res
    by_cases hlt : k < lp
    · obtain ⟨b, o, rfl, hbl, hc⟩ := (HP.out.below hbr).at_ (k := k) (by rw [HLP.out]; exact hlt)
      obtain ⟨i, hi⟩ : ∃ i, iAt p k = i := ⟨_, rfl⟩
      rw [hi] at hc
      have hnode := HL.out.node
      obtain ⟨d', lf', ps, tx, ks, PA', pc', TA', tc', KA', kc', hd', hm', ev, hps, htx, hfit, hks⟩ := hnode.open_
      simp only [Value.agg.injEq, Array.mk.injEq, List.cons.injEq, Value.bool.injEq, Value.slice.injEq, and_true] at ev
      obtain ⟨rfl, ⟨rfl, rfl, rfl⟩, ⟨rfl, rfl, rfl⟩, rfl, rfl, rfl⟩ := ev
      have hl3 := hfit.2.2.2.1
      cases hb : hasB m i
      · have HE := hd (getE_none (getO_stop (by rw [HLP.out]; exact hlt) HL.out.at_ (by rw [hi]; exact kid_none hb)))
        have HC := hd (haskid_any m i false hb d wr _ ((hnode.more hsz)))
        have HBR := hd hbr
        have HRES := hd HL.out.res
        have hnk : m.ks.length = ks.length := by rw [hm']; rfl
        have hno : i < 0 ∨ 0 ≤ i ∧ (ks.length : Int) ≤ i := by
          rcases (show i < 0 ∨ 0 ≤ i by omega) with h | h
          · exact .inl h
          · refine .inr ⟨h, ?_⟩
            rcases (show (ks.length : Int) ≤ i ∨ i < ks.length by omega) with h2 | h2
            · exact h2
            · rw [hasB_iff.2 ⟨h, by rw [hnk]; exact h2⟩] at hb; cases hb
        clear hnode hps htx hfit hks hb hi hm' hd' hbr hnk
        rcases hno with g1 | ⟨g1, g2⟩
        all_goals
          go_wp2_with (first | (go_at_call 69; refine HC.out.mono ?_; rintro e w2 ⟨rfl, b2⟩; have HR2 := hd (keepBlk HRES.out b2); have hl2 := b2.size; obtain ⟨r0, r1, r2, r3, r4, r5, r6, r7⟩ := blkCells HR2.out))
          have h7 := set4_block (a := .bool false) (b := .slice none 0 0) (c := .slice none 0 0) (d := .slice none 0 0) (by first | exact HR2.out | exact HRES.out)
          obtain ⟨t0, t1, t2, t3, _, _, _, _⟩ := blkCells h7
          refine bodyPost_ret (v := .tuple #[.agg #[.bool false, .slice none 0 0, .slice none 0 0, .slice none 0 0], .int .i64 5]) (by simp [results, Try.results28, go_sem, t0, t1, t2, t3]) rfl (newNO_ret HE.out (zero_topO _ 0 _) ?_)
          exact ((((show Below w.heap.size w _ from (by first | exact HBR.out.trans (b2.mono HBR.out.size) | exact HBR.out)).setCell (by show _ ≤ w.heap.size + 1; omega) _).setCell (by show _ ≤ w.heap.size + 1; omega) _).setCell (by show _ ≤ w.heap.size + 1; omega) _).setCell (by show _ ≤ w.heap.size + 1; omega) _
      · have HK := hd (hasB_iff.1 hb)
        obtain ⟨j, hj⟩ : ∃ j : Nat, i = (j : Int) := ⟨i.toNat, by have := HK.out; omega⟩
        subst hj
        have hj1 : j < ks.length := by have := HK.out; rw [hm'] at this; simp only [NT.ks] at this; omega
        have HC := hd (haskid_any m (j : Int) true hb d wr _ ((hnode.more hsz)))
        have HKS := hd hks
        have HI := hd hi
        have HM := hd hm'
        have HD := hd hd'
        have HBR := hd hbr
        clear hnode hps htx hfit hks hb hi hm' hd' z0 z1 z2 z3 f0 f1 f2 f3 hbr
        have HVAR := hd HL.out.var
        obtain ⟨m2, b', o', lf2, PA2, np2, pc2, TA2, nt2, tc2, KA2, nk2, kc2, hm2, rfl, hbg2, hnm2, c0, c1, c2, c3⟩ := HKS.out.at_ hj1
        have hg := hd (show getO n (p.take (k + 1)) = some m2 by rw [getO_take_step (by rw [HLP.out]; exact hlt) HL.out.at_, HI.out]; unfold kidT; rw [if_pos (by omega), HM.out]; exact hm2)
        have HN2 := hd (hnm2.deep (d' := d) (by have := HD.out; omega))
        have HM2 := hd hm2
        clear hnm2 hm2
        go_wp2_with (first | (go_at_call 69; refine HC.out.mono ?_; rintro e w2 ⟨rfl, b2⟩; have hl2 := b2.size; obtain ⟨u0, u1, u2, u3, u4, u5, u6, u7⟩ := blkCells (keepBlk HVAR.out b2); have e0 := (b2.cell (cell_in c0)).trans c0; have e1 := (b2.cell (cell_in c1)).trans c1; have e2 := (b2.cell (cell_in c2)).trans c2; have e3 := (b2.cell (cell_in c3)).trans c3; clear c0 c1 c2 c3 x0 x1 x2 x3 y0 y1 y2 y3))
        go_roundw
        case rel => exact ⟨k + 1, _, _, _, _, _, _, _, _, _, _, m2, by omega, by go_num, hd (get_step HL.out (by first | exact b2 | exact Below.refl _ _) hg.out (by first | exact HN2.out.below (b2.mono hsz) | exact HN2.out))⟩
        case measure => simp [intOf]; omega
    · have HE := hd (getE_some (n := n) (m := m) (p := p) (by have := HL.out.at_; rwa [List.take_of_length_le (by rw [HLP.out]; omega)] at this))
      have HRES := hd HL.out.res
      have HBR := hd hbr
      have HN := hd (HL.out.node.more hsz)
      clear z0 z1 z2 z3 f0 f1 f2 f3 hbr
      go_wp2_with (first | (go_at_call 50; refine Calls.mono (rncopyO_any _ _ _ _ HN.out) ?_; intro e w4 h4; obtain ⟨v4, rfl, ht4, hb4⟩ := h4; obtain ⟨lf4, PA4, np4, pc4, TA4, nt4, tc4, KA4, nk4, kc4, rfl⟩ := ht4.val; have HR4 := hd (keepBlk HRES.out hb4); obtain ⟨r0, r1, r2, r3, r4, r5, r6, r7⟩ := blkCells HR4.out; have HT4 := hd ht4; have HB4 := hd hb4; have hl4 := hb4.size; clear ht4 hb4))
      have h7 := set4_block (a := .bool lf4) (b := .slice PA4 np4 pc4) (c := .slice TA4 nt4 tc4) (d := .slice KA4 nk4 kc4) HR4.out
      obtain ⟨t0, t1, t2, t3, _, _, _, _⟩ := blkCells h7
      have hb7 : Below w.heap.size w w4 := HBR.out.trans (HB4.out.mono HBR.out.size)
      refine bodyPost_ret (v := .tuple #[.agg #[.bool lf4, .slice PA4 np4 pc4, .slice TA4 nt4 tc4, .slice KA4 nk4 kc4], .int .i64 0]) (by simp [results, Try.results28, go_sem, t0, t1, t2, t3]) rfl (newNO_ret HE.out ((HT4.out.keep (by simp) (fun b h1 _ => ?_)).base (by omega)) ?_)
      · have hne : b ≠ w.heap.size + 1 := by omega
        iterate 4 rw [Below.heap_setCell _ _ _ _ (by simpa using hne)]
      · exact (((hb7.setCell (by show _ ≤ w.heap.size + 1; omega) _).setCell (by show _ ≤ w.heap.size + 1; omega) _).setCell (by show _ ≤ w.heap.size + 1; omega) _).setCell (by show _ ≤ w.heap.size + 1; omega) _

end Go.Proofs.Ytmglnjmnabjjgaa

namespace Go.Proofs.Ytmglnjmnabjjgaa
open Go.RowKit

theorem tget_any (d : Nat) (w : World) (v : Value) (n : NT) (A : Option Addr) (p : List Int) (lp c : Nat) (hlp : p.length = lp) (hl : lp ≤ 10000000) (hn : NodeAt d w w.heap.size v n) (hp : IL w w.heap.size A p) :
    Calls Try.prog 57 #[v, .slice A lp c] w (NewN (getE n p) w) :=
  (tgetO_any d w v n A p lp c hlp hl hn hp).mono fun _ _ ⟨v, d, h1, h2, h3⟩ => ⟨v, d + 1, h1, h2.tree, h3⟩
set_option maxRecDepth 4000 in
theorem rtget_any (d : Nat) (w : World) (v : Value) (n : NT) (A : Option Addr) (p : List Int) (lp c : Nat) (hlp : p.length = lp) (hl : lp ≤ 10000000) (hn : NodeAt d w w.heap.size v n) (hp : IL w w.heap.size A p) :
    Calls Try.prog 28 #[v, .slice A lp c] w (NewN (getE n p) w) :=
  (rtgetO_any d w v n A p lp c hlp hl hn hp).mono fun _ _ ⟨v, d, h1, h2, h3⟩ => ⟨v, d + 1, h1, h2.tree, h3⟩

end Go.Proofs.Ytmglnjmnabjjgaa

namespace Go.Proofs.Ytmglnjmnabjjgaa
open Go.RowKit
open Go.WideShapes (add_plain)
set_option maxRecDepth 4000 in
/-- A list appended to nil. -/
theorem wpList_append_G0 {ts te : TypeId} {size by_ : Nat} (E : ElemG ts te size by_) (W : World) {ops : Array Oper} {rest : List Oper} {o : Oper} {a : Act} {Q : Exit → Act → World → Prop} (hgd : o.guard = none) (s x : Operand)
    (ho : o.op = .call { callee := .builtin .append, args := #[s, x], argTypes := #[ts, ts] })
    (b : Nat) (hs : a.eval s = .slice none 0 0) (A : Option Addr) (m c B : Nat) (l : List Value) (hx : a.eval x = .slice A m c) (hn : l.length = m * size) (hp : VL W B A l) (h1 : ∀ u ∈ l, u.oneCell' = true)
    (h63 : m ≤ maxLen) (hby : m * by_ ≤ 140737488355328) (hb : b ≤ W.heap.size)
    (hK : ∀ A' c' w', w'.ownsRow b te size (.slice A' m c') m l → Below W.heap.size W w' → ((Value.slice A' m c').ownBlock = none ∨ ∃ g, (Value.slice A' m c').ownBlock = some g ∧ W.heap.size ≤ g) → wpList Try.prog ops Q rest (a.put o.dst (.slice A' m c')) w') :
    wpList Try.prog ops Q (o :: rest) a W := by
  refine wpList_append_GX E W hgd s x ho b (.slice none 0 0) 0 [] hs (World.ownsRow_nil _ _ _ _) A m c B l hx hn hp h1 (by rw [Nat.zero_add]; exact h63) (by rw [Nat.zero_add]; exact hby) hb (fun A' c' w' h1 h2 h3 => ?_)
  rw [Nat.zero_add, List.nil_append] at h1
  rw [Nat.zero_add] at h3 ⊢
  exact hK A' c' w' h1 (grown_none h2) h3
set_option maxRecDepth 4000 in
/-- A list appended to a row of the call's own, in a region that draws. -/
theorem step_append_GX {ts te : TypeId} {size by_ : Nat} (E : ElemG ts te size by_) (W : World) {ops : Array Oper} {o : Oper} {a : Act} {K : Act → World → Prop} {Q : Exit → Act → World → Prop} {F : Prop} (hgd : o.guard = none) (s x : Operand)
    (ho : o.op = .call { callee := .builtin .append, args := #[s, x], argTypes := #[ts, ts] })
    (b : Nat) (v : Value) (n : Nat) (k : List Value) (hs : a.eval s = v) (hO : W.ownsRow b te size v n k) (A : Option Addr) (m c B : Nat) (l : List Value) (hx : a.eval x = .slice A m c) (hn : l.length = m * size) (hp : VL W B A l) (h1 : ∀ u ∈ l, u.oneCell' = true)
    (h63 : n + m ≤ maxLen) (hby : (n + m) * by_ ≤ 140737488355328) (hb : b ≤ W.heap.size)
    (hK : ∀ A' c' w', w'.ownsRow b te size (.slice A' (n + m) c') (n + m) (k ++ l) → W.grownBy w' v.ownBlock → ((Value.slice A' (n + m) c').ownBlock = v.ownBlock ∨ ∃ g, (Value.slice A' (n + m) c').ownBlock = some g ∧ W.heap.size ≤ g) → K (a.put o.dst (.slice A' (n + m) c')) w') :
    if Region.wanted o (yielded ops a.tmps) = true then Oper.wp Try.prog o a W K Q else F := by
  have hw : Region.wanted o (yielded ops a.tmps) = true := by simp [Region.wanted, hgd]
  rw [if_pos hw]
  obtain ⟨i0, z, hi, hz0, hz1, hz2, hz3⟩ := E.info
  have hsz := E.pos
  rcases Nat.eq_zero_or_pos m with hm | hm
  · subst hm
    have hl : l = [] := List.eq_nil_of_length_eq_zero (by simpa using hn)
    subst hl
    obtain ⟨A0, c0, rfl, _⟩ := own_free hO
    have hrun := run_append_zeroG (w := W) (ty := o.type) (A := A) (c := c) E.under hi hO
    unfold Oper.wp execOp
    simp only [ho, resolve, invoke, builtin, Sem.run_bind, Sem.run_pure, Result.andThen_ok, List.map_toArray, List.map_cons, List.map_nil, hs, hx, hrun]
    exact hK A0 c0 W (by simpa using hO) ⟨rfl, rfl, rfl, Nat.le_refl _, fun _ _ _ => rfl⟩ (.inl (by cases A0 <;> rfl))
  · have hl : 0 < l.length := by have := Nat.mul_pos hm hsz; omega
    obtain ⟨b', o', rfl, _, hc⟩ := hp (List.length_pos_iff.1 hl)
    refine wp_append_lies W s x ts ho b te i0 z size by_ E.under hi hz0 hz1 hz2 hz3 hsz v n k hs hO ⟨b', o', none⟩ m c l hx hn (fun j u hj => by rw [add_plain]; exact hc j u hj) h1 hm h63 hby hb W.heap.size rfl (fun g cap w' h1 h2 h3 _ => hK _ cap w' h1 h2 ?_)
    rcases h3 with e | e
    · exact .inl (by rw [e]; rfl)
    · exact .inr ⟨g, rfl, by omega⟩
set_option maxRecDepth 4000 in
theorem step_append_G0 {ts te : TypeId} {size by_ : Nat} (E : ElemG ts te size by_) (W : World) {ops : Array Oper} {o : Oper} {a : Act} {K : Act → World → Prop} {Q : Exit → Act → World → Prop} {F : Prop} (hgd : o.guard = none) (s x : Operand)
    (ho : o.op = .call { callee := .builtin .append, args := #[s, x], argTypes := #[ts, ts] })
    (b : Nat) (hs : a.eval s = .slice none 0 0) (A : Option Addr) (m c B : Nat) (l : List Value) (hx : a.eval x = .slice A m c) (hn : l.length = m * size) (hp : VL W B A l) (h1 : ∀ u ∈ l, u.oneCell' = true)
    (h63 : m ≤ maxLen) (hby : m * by_ ≤ 140737488355328) (hb : b ≤ W.heap.size)
    (hK : ∀ A' c' w', w'.ownsRow b te size (.slice A' m c') m l → Below W.heap.size W w' → ((Value.slice A' m c').ownBlock = none ∨ ∃ g, (Value.slice A' m c').ownBlock = some g ∧ W.heap.size ≤ g) → K (a.put o.dst (.slice A' m c')) w') :
    if Region.wanted o (yielded ops a.tmps) = true then Oper.wp Try.prog o a W K Q else F := by
  refine step_append_GX E W hgd s x ho b (.slice none 0 0) 0 [] hs (World.ownsRow_nil _ _ _ _) A m c B l hx hn hp h1 (by rw [Nat.zero_add]; exact h63) (by rw [Nat.zero_add]; exact hby) hb (fun A' c' w' h1 h2 h3 => ?_)
  rw [Nat.zero_add, List.nil_append] at h1
  rw [Nat.zero_add] at h3 ⊢
  exact hK A' c' w' h1 (grown_none h2) h3

end Go.Proofs.Ytmglnjmnabjjgaa

namespace Go.Proofs.Ytmglnjmnabjjgaa
open Go.RowKit
/-! A block of two cells. -/
section
variable {w w' : World} {g : Nat} {a b x y : Value} {t : TypeId}
set_option maxRecDepth 4000 in
theorem blk2 (h : w.heap[g]? = some (.cells #[a, b] t (0, 0))) : w.cell? ⟨g, 0, none⟩ = some a ∧ w.cell? ⟨g, 1, none⟩ = some b ∧ w.frozen? ⟨g, 0, none⟩ = false ∧ w.frozen? ⟨g, 1, none⟩ = false := by
  refine ⟨?_, ?_, ?_, ?_⟩ <;> simp [World.cell?, World.frozen?, h]
end
set_option maxRecDepth 4000 in
theorem pt_new (w : World) (o o' : Obj) : ((w.alloc o).alloc o').heap[w.heap.size]? = some o ∧ ((w.alloc o).alloc o').heap[w.heap.size + 1]? = some o' := by
  refine ⟨?_, ?_⟩
  · rw [Below.heap_alloc _ _ _ (by simp)]; exact heap_alloc_new _ _
  · rw [← sz1 (w := w) (A := o)]; exact heap_alloc_new _ _

end Go.Proofs.Ytmglnjmnabjjgaa

namespace Go.Proofs.Ytmglnjmnabjjgaa

def offT (n : NT) (q : List Int) : Int := match getO n q with
  | none => 0
  | some m => m.tx.length
def chkP (n : NT) (p : List Int × Int) : Int := match getO n p.1 with
  | none => 5
  | some m => if m.lf = false then 7 else if p.2 < 0 ∨ (m.tx.length : Int) < p.2 then 8 else 0

/-! The last leaf ahead of a path: by the Kids, from the last one on. -/
/-! The first leaf from a path on. -/
/-! The same by the list of the leaves. -/
end Go.Proofs.Ytmglnjmnabjjgaa

namespace Go.Proofs.Ytmglnjmnabjjgaa
open Go.RowKit
def eO : Option (List Int) → Int
  | none => 14
  | some _ => 0
end Go.Proofs.Ytmglnjmnabjjgaa

namespace Go.Proofs.Ytmglnjmnabjjgaa
open Go.RowKit
set_option maxRecDepth 4000 in
theorem same_at {w W : World} {u v : Value} {p q : List Int × Int} (hb : Below w.heap.size w W) (hp : PtAt w u p) (hq : PtAt w v q) : Calls Try.prog 48 #[u, v] W (Still (.bool (samP p q)) W) := by
  obtain ⟨A, n, c, rfl, h1, h2, _, h3⟩ := hp.later hb
  obtain ⟨B, m, d, rfl, g1, g2, _, g3⟩ := hq.later hb
  exact psame_pts A B p q n m c d W h1 g1 (by omega) (by omega) h3 g3
end Go.Proofs.Ytmglnjmnabjjgaa

namespace Go.Proofs.Ytmglnjmnabjjgaa
/-- Whether a ref may be. -/
def zP (p : List Int × Int) : Bool := samP p ([], 0)
def chkR (n : NT) (r : RefP) : Int :=
  if r.kind = 1 then (if r.aff ≠ 0 ∨ zP r.q = false ∨ (zP r.a && zP r.f) = false then 1 else (getE n r.p).2)
  else if r.kind = 2 then (if r.aff < 0 ∨ 2 < r.aff ∨ r.p.length ≠ 0 ∨ (zP r.a && zP r.f) = false then 1 else chkP n r.q)
  else if r.kind = 3 then (if r.aff < 0 ∨ 4 < r.aff ∨ r.p.length ≠ 0 ∨ zP r.q = false then 1 else if chkP n r.a ≠ 0 then chkP n r.a else chkP n r.f)
  else 1
/-- One more ref, one by its number, the others. -/
def withR (id : Int) (r : RefP) : RefP := { r with id := id, live := true }
def addR (n : NT) (l : List RefP) (id : Int) (r : RefP) : List RefP × Int :=
  if chkR n r ≠ 0 then ([], chkR n r) else if 256 ≤ l.length then ([], 2) else (l ++ [withR id r], 0)
end Go.Proofs.Ytmglnjmnabjjgaa

namespace Go.Proofs.Ytmglnjmnabjjgaa
open Go.RowKit

set_option maxHeartbeats 4000000 in
theorem ptcheck_any (d : Nat) (w : World) (v : Value) (n : NT) (A : Option Addr) (p : List Int × Int) (lp c : Nat) (hlp : p.1.length = lp) (hl : lp ≤ 10000000) (hn : NodeAt d w w.heap.size v n) (hp : IL w w.heap.size A p.1) :
    Calls Try.prog 41 #[v, .agg #[.slice A lp c, .int .i64 p.2]] w (Still (.int .i64 (chkP n p)) w) := by
  obtain ⟨lf, PA, np, pc, TA, nt, tc, KA, nk, kc, rfl⟩ := hn.val
  obtain ⟨W0, hW⟩ : ∃ W0, W0 = (w.alloc (.cells #[.bool lf, .slice PA np pc, .slice TA nt tc, .slice KA nk kc] 26)).alloc (.cells #[.slice A lp c, .int .i64 p.2] 30) := ⟨_, rfl⟩
  have hb0 : Below w.heap.size w W0 := hW ▸ below_mono2 (Below.refl _ _) (Nat.le_refl _)
  have e0 := pt_new w (Obj.cells #[Value.bool lf, .slice PA np pc, .slice TA nt tc, .slice KA nk kc] 26) (Obj.cells #[Value.slice A lp c, Value.int .i64 p.2] 30)
  rw [← hW] at e0
  have HK := hd (show ∀ W, Below W0.heap.size W0 W → (W.cell? ⟨w.heap.size, 0, none⟩ = some (.bool lf) ∧ W.cell? ⟨w.heap.size, 1, none⟩ = some (.slice PA np pc) ∧ W.cell? ⟨w.heap.size, 2, none⟩ = some (.slice TA nt tc) ∧ W.cell? ⟨w.heap.size, 3, none⟩ = some (.slice KA nk kc) ∧ W.cell? ⟨w.heap.size + 1, 0, none⟩ = some (.slice A lp c) ∧ W.cell? ⟨w.heap.size + 1, 1, none⟩ = some (.int .i64 p.2)) from fun W h => by
    have h1 := blkCells (keepBlk e0.1 h)
    have h2 := blk2 (keepBlk e0.2 h)
    exact ⟨h1.1, h1.2.1, h1.2.2.1, h1.2.2.2.1, h2.1, h2.2.1⟩)
  obtain ⟨x0, x1, x2, x3, y0, y1⟩ := HK.out _ (Below.refl _ _)
  have HW := hd hW
  have HB0 := hd hb0
  have hC := tget_any d W0 _ n A p.1 lp c hlp hl (hn.later hb0) (hp.later hb0)
  clear hn hp hW hb0 e0 hlp hl
  obtain ⟨o, ho⟩ : ∃ o, o = p.2 := ⟨_, rfl⟩
  cases hg : getO n p.1 with
  | none =>
    rw [getE_none hg] at hC
    have HC := hd hC
    have HF := hd (show chkP n p = 5 by unfold chkP; rw [hg])
    have HM1 := hd (show ((zeroT, 5) : NT × Int).1 = .mk false [] [] [] from rfl)
    clear hg hC ho o
    go_enter Try.func41, Try.ntmps41
    go_wp2_with (go_at_call 57; rw [← HW.out]; refine HC.out.mono ?_; intro e w1 h1; obtain ⟨v1, d1, rfl, ht1, hb1⟩ := h1; obtain ⟨d', lf1, ps1, tx1, ks1, PA1, pc1, TA1, tc1, KA1, kc1, _, hm1, rfl, _, _, hf1, _⟩ := (ht1.at_ (B := w1.heap.size) (fun b hb => hb.2)).open_; have hm1' := HM1.out.symm.trans hm1; clear hm1; injection hm1' with e1 e2 e3 e4; subst e1 e2 e3 e4; have hf2 := hf1.2.2.1; have HB1 := hd hb1; clear ht1 hb1 hf1 x0 x1 x2 x3 y0 y1; obtain ⟨x0, x1, x2, x3, y0, y1⟩ := HK.out _ HB1.out; have hl0 := cell_in x0; have hl1 := cell_in y1)
    go_ret
    exact ⟨ret_int HF.out.symm, HB0.out.trans ((HB1.out.alloc HB1.out.size _).mono HB0.out.size)⟩
  | some m =>
    rw [getE_some hg] at hC
    have HC := hd hC
    cases m with
    | mk ml mp mx mk =>
      have hF : chkP n p = if ml = false then 7 else if p.2 < 0 ∨ (mx.length : Int) < p.2 then 8 else 0 := by unfold chkP; rw [hg]; rfl
      have HM1 := hd (show ((NT.mk ml mp mx mk, 0) : NT × Int).1 = .mk ml mp mx mk from rfl)
      clear hg hC
      cases ml with
      | false =>
        have HF := hd (hF.trans (if_pos rfl))
        clear hF ho o
        go_enter Try.func41, Try.ntmps41
        go_wp2_with (go_at_call 57; rw [← HW.out]; refine HC.out.mono ?_; intro e w1 h1; obtain ⟨v1, d1, rfl, ht1, hb1⟩ := h1; obtain ⟨d', lf1, ps1, tx1, ks1, PA1, pc1, TA1, tc1, KA1, kc1, _, hm1, rfl, _, _, hf1, _⟩ := (ht1.at_ (B := w1.heap.size) (fun b hb => hb.2)).open_; have hm1' := HM1.out.symm.trans hm1; clear hm1; injection hm1' with e1 e2 e3 e4; subst e1 e2 e3 e4; have hf2 := hf1.2.2.1; have HB1 := hd hb1; clear ht1 hb1 hf1 x0 x1 x2 x3 y0 y1; obtain ⟨x0, x1, x2, x3, y0, y1⟩ := HK.out _ HB1.out; have hl0 := cell_in x0; have hl1 := cell_in y1)
        go_ret
        exact ⟨ret_int HF.out.symm, HB0.out.trans ((HB1.out.alloc HB1.out.size _).mono HB0.out.size)⟩
      | true =>
        rw [if_neg (by simp)] at hF
        rw [← ho] at hF y1 HK HW ⊢
        by_cases h1 : o < 0
        · have HF := hd (hF.trans (if_pos (.inl h1)))
          clear hF ho
          go_enter Try.func41, Try.ntmps41
          go_wp2_with (go_at_call 57; rw [← HW.out]; refine HC.out.mono ?_; intro e w1 h1; obtain ⟨v1, d1, rfl, ht1, hb1⟩ := h1; obtain ⟨d', lf1, ps1, tx1, ks1, PA1, pc1, TA1, tc1, KA1, kc1, _, hm1, rfl, _, _, hf1, _⟩ := (ht1.at_ (B := w1.heap.size) (fun b hb => hb.2)).open_; have hm1' := HM1.out.symm.trans hm1; clear hm1; injection hm1' with e1 e2 e3 e4; subst e1 e2 e3 e4; have hf2 := hf1.2.2.1; have HB1 := hd hb1; clear ht1 hb1 hf1 x0 x1 x2 x3 y0 y1; obtain ⟨x0, x1, x2, x3, y0, y1⟩ := HK.out _ HB1.out; have hl0 := cell_in x0; have hl1 := cell_in y1)
          go_ret
          exact ⟨ret_int HF.out.symm, HB0.out.trans ((HB1.out.alloc HB1.out.size _).mono HB0.out.size)⟩
        · by_cases h2 : (mx.length : Int) < o
          · have HF := hd (hF.trans (if_pos (.inr h2)))
            clear hF ho
            go_enter Try.func41, Try.ntmps41
            go_wp2_with (go_at_call 57; rw [← HW.out]; refine HC.out.mono ?_; intro e w1 h1; obtain ⟨v1, d1, rfl, ht1, hb1⟩ := h1; obtain ⟨d', lf1, ps1, tx1, ks1, PA1, pc1, TA1, tc1, KA1, kc1, _, hm1, rfl, _, _, hf1, _⟩ := (ht1.at_ (B := w1.heap.size) (fun b hb => hb.2)).open_; have hm1' := HM1.out.symm.trans hm1; clear hm1; injection hm1' with e1 e2 e3 e4; subst e1 e2 e3 e4; have hf2 := hf1.2.2.1; have HB1 := hd hb1; clear ht1 hb1 hf1 x0 x1 x2 x3 y0 y1; obtain ⟨x0, x1, x2, x3, y0, y1⟩ := HK.out _ HB1.out; have hl0 := cell_in x0; have hl1 := cell_in y1)
            go_ret
            exact ⟨ret_int HF.out.symm, HB0.out.trans ((HB1.out.alloc HB1.out.size _).mono HB0.out.size)⟩
          · have HF := hd (hF.trans (if_neg (by omega)))
            clear hF ho
            go_enter Try.func41, Try.ntmps41
            go_wp2_with (go_at_call 57; rw [← HW.out]; refine HC.out.mono ?_; intro e w1 h1; obtain ⟨v1, d1, rfl, ht1, hb1⟩ := h1; obtain ⟨d', lf1, ps1, tx1, ks1, PA1, pc1, TA1, tc1, KA1, kc1, _, hm1, rfl, _, _, hf1, _⟩ := (ht1.at_ (B := w1.heap.size) (fun b hb => hb.2)).open_; have hm1' := HM1.out.symm.trans hm1; clear hm1; injection hm1' with e1 e2 e3 e4; subst e1 e2 e3 e4; have hf2 := hf1.2.2.1; have HB1 := hd hb1; clear ht1 hb1 hf1 x0 x1 x2 x3 y0 y1; obtain ⟨x0, x1, x2, x3, y0, y1⟩ := HK.out _ HB1.out; have hl0 := cell_in x0; have hl1 := cell_in y1)
            go_ret
            exact ⟨ret_int HF.out.symm, HB0.out.trans ((HB1.out.alloc HB1.out.size _).mono HB0.out.size)⟩
set_option maxRecDepth 4000 in
set_option maxHeartbeats 4000000 in
theorem rpcheck_any (d : Nat) (w : World) (v : Value) (n : NT) (A : Option Addr) (p : List Int × Int) (lp c : Nat) (hlp : p.1.length = lp) (hl : lp ≤ 10000000) (hn : NodeAt d w w.heap.size v n) (hp : IL w w.heap.size A p.1) :
    Calls Try.prog 29 #[v, .agg #[.slice A lp c, .int .i64 p.2]] w (Still (.int .i64 (chkP n p)) w) := by
  obtain ⟨lf, PA, np, pc, TA, nt, tc, KA, nk, kc, rfl⟩ := hn.val
  obtain ⟨W0, hW⟩ : ∃ W0, W0 = (w.alloc (.cells #[.bool lf, .slice PA np pc, .slice TA nt tc, .slice KA nk kc] 26)).alloc (.cells #[.slice A lp c, .int .i64 p.2] 30) := ⟨_, rfl⟩
  have hb0 : Below w.heap.size w W0 := hW ▸ below_mono2 (Below.refl _ _) (Nat.le_refl _)
  have e0 := pt_new w (Obj.cells #[Value.bool lf, .slice PA np pc, .slice TA nt tc, .slice KA nk kc] 26) (Obj.cells #[Value.slice A lp c, Value.int .i64 p.2] 30)
  rw [← hW] at e0
  have HK := hd (show ∀ W, Below W0.heap.size W0 W → (W.cell? ⟨w.heap.size, 0, none⟩ = some (.bool lf) ∧ W.cell? ⟨w.heap.size, 1, none⟩ = some (.slice PA np pc) ∧ W.cell? ⟨w.heap.size, 2, none⟩ = some (.slice TA nt tc) ∧ W.cell? ⟨w.heap.size, 3, none⟩ = some (.slice KA nk kc) ∧ W.cell? ⟨w.heap.size + 1, 0, none⟩ = some (.slice A lp c) ∧ W.cell? ⟨w.heap.size + 1, 1, none⟩ = some (.int .i64 p.2)) from fun W h => by
    have h1 := blkCells (keepBlk e0.1 h)
    have h2 := blk2 (keepBlk e0.2 h)
    exact ⟨h1.1, h1.2.1, h1.2.2.1, h1.2.2.2.1, h2.1, h2.2.1⟩)
  obtain ⟨x0, x1, x2, x3, y0, y1⟩ := HK.out _ (Below.refl _ _)
  have HW := hd hW
  have HB0 := hd hb0
  have hC := rtget_any d W0 _ n A p.1 lp c hlp hl (hn.later hb0) (hp.later hb0)
  clear hn hp hW hb0 e0 hlp hl
  obtain ⟨o, ho⟩ : ∃ o, o = p.2 := ⟨_, rfl⟩
  cases hg : getO n p.1 with
  | none =>
    rw [getE_none hg] at hC
    have HC := hd hC
    have HF := hd (show chkP n p = 5 by unfold chkP; rw [hg])
    have HM1 := hd (show ((zeroT, 5) : NT × Int).1 = .mk false [] [] [] from rfl)
    clear hg hC ho o
    go_enter Try.func29, Try.ntmps29
    go_wp2_with (go_at_call 28; rw [← HW.out]; refine HC.out.mono ?_; intro e w1 h1; obtain ⟨v1, d1, rfl, ht1, hb1⟩ := h1; obtain ⟨d', lf1, ps1, tx1, ks1, PA1, pc1, TA1, tc1, KA1, kc1, _, hm1, rfl, _, _, hf1, _⟩ := (ht1.at_ (B := w1.heap.size) (fun b hb => hb.2)).open_; have hm1' := HM1.out.symm.trans hm1; clear hm1; injection hm1' with e1 e2 e3 e4; subst e1 e2 e3 e4; have hf2 := hf1.2.2.1; have HB1 := hd hb1; clear ht1 hb1 hf1 x0 x1 x2 x3 y0 y1; obtain ⟨x0, x1, x2, x3, y0, y1⟩ := HK.out _ HB1.out; have hl0 := cell_in x0; have hl1 := cell_in y1)
    go_ret
    exact ⟨ret_int HF.out.symm, HB0.out.trans ((HB1.out.alloc HB1.out.size _).mono HB0.out.size)⟩
  | some m =>
    rw [getE_some hg] at hC
    have HC := hd hC
    cases m with
    | mk ml mp mx mk =>
      have hF : chkP n p = if ml = false then 7 else if p.2 < 0 ∨ (mx.length : Int) < p.2 then 8 else 0 := by unfold chkP; rw [hg]; rfl
      have HM1 := hd (show ((NT.mk ml mp mx mk, 0) : NT × Int).1 = .mk ml mp mx mk from rfl)
      clear hg hC
      cases ml with
      | false =>
        have HF := hd (hF.trans (if_pos rfl))
        clear hF ho o
        go_enter Try.func29, Try.ntmps29
        go_wp2_with (go_at_call 28; rw [← HW.out]; refine HC.out.mono ?_; intro e w1 h1; obtain ⟨v1, d1, rfl, ht1, hb1⟩ := h1; obtain ⟨d', lf1, ps1, tx1, ks1, PA1, pc1, TA1, tc1, KA1, kc1, _, hm1, rfl, _, _, hf1, _⟩ := (ht1.at_ (B := w1.heap.size) (fun b hb => hb.2)).open_; have hm1' := HM1.out.symm.trans hm1; clear hm1; injection hm1' with e1 e2 e3 e4; subst e1 e2 e3 e4; have hf2 := hf1.2.2.1; have HB1 := hd hb1; clear ht1 hb1 hf1 x0 x1 x2 x3 y0 y1; obtain ⟨x0, x1, x2, x3, y0, y1⟩ := HK.out _ HB1.out; have hl0 := cell_in x0; have hl1 := cell_in y1)
        go_ret
        exact ⟨ret_int HF.out.symm, HB0.out.trans ((HB1.out.alloc HB1.out.size _).mono HB0.out.size)⟩
      | true =>
        rw [if_neg (by simp)] at hF
        rw [← ho] at hF y1 HK HW ⊢
        by_cases h1 : o < 0
        · have HF := hd (hF.trans (if_pos (.inl h1)))
          clear hF ho
          go_enter Try.func29, Try.ntmps29
          go_wp2_with (go_at_call 28; rw [← HW.out]; refine HC.out.mono ?_; intro e w1 h1; obtain ⟨v1, d1, rfl, ht1, hb1⟩ := h1; obtain ⟨d', lf1, ps1, tx1, ks1, PA1, pc1, TA1, tc1, KA1, kc1, _, hm1, rfl, _, _, hf1, _⟩ := (ht1.at_ (B := w1.heap.size) (fun b hb => hb.2)).open_; have hm1' := HM1.out.symm.trans hm1; clear hm1; injection hm1' with e1 e2 e3 e4; subst e1 e2 e3 e4; have hf2 := hf1.2.2.1; have HB1 := hd hb1; clear ht1 hb1 hf1 x0 x1 x2 x3 y0 y1; obtain ⟨x0, x1, x2, x3, y0, y1⟩ := HK.out _ HB1.out; have hl0 := cell_in x0; have hl1 := cell_in y1)
          go_ret
          exact ⟨ret_int HF.out.symm, HB0.out.trans ((HB1.out.alloc HB1.out.size _).mono HB0.out.size)⟩
        · by_cases h2 : (mx.length : Int) < o
          · have HF := hd (hF.trans (if_pos (.inr h2)))
            clear hF ho
            go_enter Try.func29, Try.ntmps29
            go_wp2_with (go_at_call 28; rw [← HW.out]; refine HC.out.mono ?_; intro e w1 h1; obtain ⟨v1, d1, rfl, ht1, hb1⟩ := h1; obtain ⟨d', lf1, ps1, tx1, ks1, PA1, pc1, TA1, tc1, KA1, kc1, _, hm1, rfl, _, _, hf1, _⟩ := (ht1.at_ (B := w1.heap.size) (fun b hb => hb.2)).open_; have hm1' := HM1.out.symm.trans hm1; clear hm1; injection hm1' with e1 e2 e3 e4; subst e1 e2 e3 e4; have hf2 := hf1.2.2.1; have HB1 := hd hb1; clear ht1 hb1 hf1 x0 x1 x2 x3 y0 y1; obtain ⟨x0, x1, x2, x3, y0, y1⟩ := HK.out _ HB1.out; have hl0 := cell_in x0; have hl1 := cell_in y1)
            go_ret
            exact ⟨ret_int HF.out.symm, HB0.out.trans ((HB1.out.alloc HB1.out.size _).mono HB0.out.size)⟩
          · have HF := hd (hF.trans (if_neg (by omega)))
            clear hF ho
            go_enter Try.func29, Try.ntmps29
            go_wp2_with (go_at_call 28; rw [← HW.out]; refine HC.out.mono ?_; intro e w1 h1; obtain ⟨v1, d1, rfl, ht1, hb1⟩ := h1; obtain ⟨d', lf1, ps1, tx1, ks1, PA1, pc1, TA1, tc1, KA1, kc1, _, hm1, rfl, _, _, hf1, _⟩ := (ht1.at_ (B := w1.heap.size) (fun b hb => hb.2)).open_; have hm1' := HM1.out.symm.trans hm1; clear hm1; injection hm1' with e1 e2 e3 e4; subst e1 e2 e3 e4; have hf2 := hf1.2.2.1; have HB1 := hd hb1; clear ht1 hb1 hf1 x0 x1 x2 x3 y0 y1; obtain ⟨x0, x1, x2, x3, y0, y1⟩ := HK.out _ HB1.out; have hl0 := cell_in x0; have hl1 := cell_in y1)
            go_ret
            exact ⟨ret_int HF.out.symm, HB0.out.trans ((HB1.out.alloc HB1.out.size _).mono HB0.out.size)⟩

end Go.Proofs.Ytmglnjmnabjjgaa
