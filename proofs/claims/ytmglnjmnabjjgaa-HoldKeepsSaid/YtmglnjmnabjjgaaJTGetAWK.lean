/- hasKid, Get, and the document's Get. Get, and the document's, told plainly. A point's own copy; a range's points in order, the program's and the document's. Points of a tree: plain functions and facts; the last leaf that stands ahead of a path, the first one that does not; no program is named here. What is told: First, Last, Ahead, Behind. Points as a law holds them: the calls on two of them, in any later world. Refs: plain functions and facts; no program is named here. Whether a point is a tree's (Check), the program's and the document's. Selections: SameSel, CheckSel, the program's and the document's. Fields stored into a variable of an operation. Variables that hold a node, a selection, or an operation: their rows of cells, loaded and stored whole. Refs in memory: where their parts lie, what their cells hold; lists of them. Arguments that are refs, or lists of them, opened: what their cells hold. A region that draws its order: whatever order is picked, a fact S stands behind each operation but those that are named; what yields the same in each such world may be taken first. A ref by its number, and the others: the document's Get and Free. The refs without the first one of a number: the document's Free. The map of kinds: what it holds, what is found in it. -/
import Derived.Test.YtmglnjmnabjjgaaJNTopOWK
import Derived.Test.YtmglnjmnabjjgaaJKCmp
import Derived.Test.YtmglnjmnabjjgaaJGText
import Derived.Test.YtmglnjmnabjjgaaJGTextWK
import Derived.Laws.Strings
import Derived.Laws.AppendOwnNone
import Derived.IntWalk
import Derived.Shelf.Abstract
import Derived.StillTailTactics
import Derived.ArgAppend
import Derived.Lib.SliceRun
import Derived.Deep.RegionHeld3
import Derived.Test.YtmglnjmnabjjgaaJXMove5
import Derived.Test.YtmglnjmnabjjgaaXMove
import Derived.Test.YtmglnjmnabjjgaaJXCalls
import Derived.Lib.AppendZeros
import Derived.Deep.Cut
import Derived.Deep.RegionLaw
import Derived.BigRegion
import Derived.Deep.MidRow
import Derived.Laws.Tables
import Derived.Laws.ResultCell
import Derived.Maps.OwnOps
import Derived.Test.YtmglnjmnabjjgaaJLOpen
import Derived.ProofKit
import Derived.Deep.Slices
import Derived.Deep.Fields
import Derived.Carry
import Derived.OrdersHeld
import Derived.Test.YtmglnjmnabjjgaaJLFree
import Derived.Maps.OwnSet
namespace Go.Proofs.Ytmglnjmnabjjgaa
open Go.RowKit

theorem haskid_any (n : NT) (i : Int) (r : Bool) (hr : hasB n i = r) (d : Nat) (w : World) (v : Value) (hn : NodeAt d w w.heap.size v n) :
    Calls Try.prog 69 #[v, .int .i64 i] w (Still (.bool r) w) := by
  obtain ⟨d', lf, ps, tx, ks, PA, pc, TA, tc, KA, kc, hd', rfl, rfl, hp, ht, hf, hks⟩ := hn.open_
  have hl3 := hf.2.2.2.1
  have HB := hd (show Below w.heap.size w (w.alloc (.cells #[.bool lf, .slice PA ps.length pc, .slice TA tx.length tc, .slice KA ks.length kc] 26)) from (Below.refl _ _).alloc (Nat.le_refl _) _)
  have hr' : (decide (0 ≤ i) && decide (i < ks.length)) = r := hr
  clear hn hp ht hf hks hd' hr
  by_cases h1 : 0 ≤ i
  · by_cases h2 : i < ks.length
    · have HF := hd (show r = true by rw [← hr']; simp [h1, h2])
      clear hr'
      go_enter Try.func69, Try.ntmps69
      go_wp2
      go_ret
      exact ⟨ret_bool HF.out.symm, HB.out⟩
    · have HF := hd (show r = false by rw [← hr']; simp [h2])
      have h3 : decide (i < (ks.length : Int)) = false := decide_eq_false h2
      clear hr'
      go_enter Try.func69, Try.ntmps69
      go_wp2
      go_ret
      exact ⟨ret_bool HF.out.symm, HB.out⟩
  · have HF := hd (show r = false by rw [← hr']; simp [h1])
    have h3 : decide (0 ≤ i) = false := decide_eq_false h1
    clear hr'
    go_enter Try.func69, Try.ntmps69
    go_wp2
    go_ret
    exact ⟨ret_bool HF.out.symm, HB.out⟩

/-- A new tree, and an error's number. -/
def NewN (r : NT × Int) (w : World) (e : Ending) (w' : World) : Prop :=
  ∃ v d, e = .returned (.tuple #[v, .int .i64 r.2]) ∧ TreeP (fun b => w.heap.size ≤ b ∧ b < w'.heap.size) d w' v r.1 ∧ Below w.heap.size w w'
/-- How far down the path: the node there, in the call's own variable. -/
structure GetLoop (w : World) (d : Nat) (n : NT) (p : List Int) (k : Nat) (lf : Bool) (PA : Option Addr) (np pc : Nat) (TA : Option Addr) (nt tc : Nat) (KA : Option Addr) (nk kc : Nat) (m : NT) (wr : World) : Prop where
  below : Below w.heap.size w wr
  res : wr.heap[w.heap.size + 1]? = some (.cells #[.bool false, .slice none 0 0, .slice none 0 0, .slice none 0 0] 26 (0, 0))
  var : wr.heap[w.heap.size]? = some (.cells #[.bool lf, .slice PA np pc, .slice TA nt tc, .slice KA nk kc] 26 (0, 0))
  at_ : getO n (p.take k) = some m
  node : NodeAt d wr w.heap.size (.agg #[.bool lf, .slice PA np pc, .slice TA nt tc, .slice KA nk kc]) m

set_option maxRecDepth 4000 in
theorem two_boxes (w : World) (a b c d : Value) (t : TypeId) (a' b' c' d' : Value) (t' : TypeId) :
    ((w.alloc (.cells #[a, b, c, d] t)).alloc (.cells #[a', b', c', d'] t')).heap[w.heap.size]? = some (.cells #[a, b, c, d] t (0, 0)) ∧ ((w.alloc (.cells #[a, b, c, d] t)).alloc (.cells #[a', b', c', d'] t')).heap[w.heap.size + 1]? = some (.cells #[a', b', c', d'] t' (0, 0)) := by
  refine ⟨?_, ?_⟩
  · rw [Below.heap_alloc _ _ _ (by simp)]; exact heap_alloc_new _ _
  · rw [← sz1 (w := w) (A := .cells #[a, b, c, d] t)]; exact heap_alloc_new _ _
set_option maxRecDepth 4000 in
theorem get_start {w : World} {d : Nat} {n : NT} {p : List Int} {lf : Bool} {PA : Option Addr} {np pc : Nat} {TA : Option Addr} {nt tc : Nat} {KA : Option Addr} {nk kc : Nat} (hn : NodeAt d w w.heap.size (.agg #[.bool lf, .slice PA np pc, .slice TA nt tc, .slice KA nk kc]) n) :
    GetLoop w d n p 0 lf PA np pc TA nt tc KA nk kc n ((w.alloc (.cells #[.bool lf, .slice PA np pc, .slice TA nt tc, .slice KA nk kc] 26)).alloc (.cells #[.bool false, .slice none 0 0, .slice none 0 0, .slice none 0 0] 26)) := by
  have hb := below_mono2 (w := w) (w' := w) (o := (.cells #[.bool lf, .slice PA np pc, .slice TA nt tc, .slice KA nk kc] 26)) (o' := (.cells #[.bool false, .slice none 0 0, .slice none 0 0, .slice none 0 0] 26)) (Below.refl _ _) (Nat.le_refl w.heap.size)
  obtain ⟨h1, h2⟩ := two_boxes w (.bool lf) (.slice PA np pc) (.slice TA nt tc) (.slice KA nk kc) 26 (.bool false) (.slice none 0 0) (.slice none 0 0) (.slice none 0 0) 26
  exact ⟨hb, h2, h1, rfl, hn.below hb⟩
set_option maxRecDepth 4000 in
theorem get_step {w wr w2 : World} {d : Nat} {n m m2 : NT} {p : List Int} {k : Nat} {lf : Bool} {PA : Option Addr} {np pc : Nat} {TA : Option Addr} {nt tc : Nat} {KA : Option Addr} {nk kc : Nat} {lf2 : Bool} {PA2 : Option Addr} {np2 pc2 : Nat} {TA2 : Option Addr} {nt2 tc2 : Nat} {KA2 : Option Addr} {nk2 kc2 : Nat}
    (h : GetLoop w d n p k lf PA np pc TA nt tc KA nk kc m wr) (hb : Below wr.heap.size wr w2) (hm : getO n (p.take (k + 1)) = some m2) (hn : NodeAt d w2 w.heap.size (.agg #[.bool lf2, .slice PA2 np2 pc2, .slice TA2 nt2 tc2, .slice KA2 nk2 kc2]) m2) :
    GetLoop w d n p (k + 1) lf2 PA2 np2 pc2 TA2 nt2 tc2 KA2 nk2 kc2 m2 ((((w2.setCell ⟨w.heap.size, 0, none⟩ (.bool lf2)).setCell ⟨w.heap.size, 1, none⟩ (.slice PA2 np2 pc2)).setCell ⟨w.heap.size, 2, none⟩ (.slice TA2 nt2 tc2)).setCell ⟨w.heap.size, 3, none⟩ (.slice KA2 nk2 kc2)) := by
  have hs := h.below.size
  have hb2 : Below w.heap.size w w2 := h.below.trans (hb.mono hs)
  have hbx : Below w.heap.size w ((((w2.setCell ⟨w.heap.size, 0, none⟩ (.bool lf2)).setCell ⟨w.heap.size, 1, none⟩ (.slice PA2 np2 pc2)).setCell ⟨w.heap.size, 2, none⟩ (.slice TA2 nt2 tc2)).setCell ⟨w.heap.size, 3, none⟩ (.slice KA2 nk2 kc2)) := (((hb2.setCell (Nat.le_refl _) _).setCell (Nat.le_refl _) _).setCell (Nat.le_refl _) _).setCell (Nat.le_refl _) _
  have hb2x : Below w.heap.size w2 ((((w2.setCell ⟨w.heap.size, 0, none⟩ (.bool lf2)).setCell ⟨w.heap.size, 1, none⟩ (.slice PA2 np2 pc2)).setCell ⟨w.heap.size, 2, none⟩ (.slice TA2 nt2 tc2)).setCell ⟨w.heap.size, 3, none⟩ (.slice KA2 nk2 kc2)) := ((((Below.refl w.heap.size w2).setCell (Nat.le_refl _) _).setCell (Nat.le_refl _) _).setCell (Nat.le_refl _) _).setCell (Nat.le_refl _) _
  refine ⟨hbx, ?_, set4_block ((hb.block _ (lt_of_block h.var)).trans h.var), hm, hn.below hb2x⟩
  iterate 4 rw [Below.heap_setCell _ _ _ _ (by show w.heap.size + 1 ≠ w.heap.size; omega)]
  exact (hb.block _ (lt_of_block h.res)).trans h.res

/-- A node told, its rows its own; or none. -/
def NewNO (r : NT × Int) (w : World) (e : Ending) (w' : World) : Prop :=
  ∃ v d, e = .returned (.tuple #[v, .int .i64 r.2]) ∧ TopO w.heap.size d w' v r.1 ∧ Below w.heap.size w w'
set_option maxRecDepth 4000 in
theorem newNO_ret {r : NT × Int} {n : NT} {e : Int} {w w' : World} {v : Value} {d : Nat} (h : r = (n, e)) (ht : TopO w.heap.size d w' v n) (hb : Below w.heap.size w w') : NewNO r w (.returned (.tuple #[v, .int .i64 e])) w' := by
  subst h; exact ⟨v, d, rfl, ht, hb⟩
set_option maxRecDepth 4000 in
theorem zero_topO (base d : Nat) (w : World) : TopO base d w (.agg #[.bool false, .slice none 0 0, .slice none 0 0, .slice none 0 0]) zeroT :=
  ⟨none, 0, none, 0, none, 0, [], rfl, World.ownsRow_nil _ _ _ _, World.ownsRow_nil _ _ _ _, World.ownsRow_nil _ _ _ _, fit_zero, rfl, fun j m h => by simp [zeroT, NT.ks] at h⟩

set_option maxRecDepth 100000 in
set_option maxHeartbeats 4000000 in
theorem tgetO_any (d : Nat) (w : World) (v : Value) (n : NT) (A : Option Addr) (p : List Int) (lp c : Nat) (hlp : p.length = lp) (hl : lp ≤ 10000000) (hn : NodeAt d w w.heap.size v n) (hp : IL w w.heap.size A p) :
    Calls Try.prog 57 #[v, .slice A lp c] w (NewNO (getE n p) w) := by
  obtain ⟨lf, PA, np, pc, TA, nt, tc, KA, nk, kc, rfl⟩ := hn.val
  have HL0 := hd (get_start (p := p) hn)
  have HP := hd hp
  have HLP := hd hlp
  clear hn hp hlp
  go_enter Try.func57, Try.ntmps57
  go_wp2
  go_loopw [10] (fun i wr => ∃ (k : Nat) (lf : Bool) (PA : Option Addr) (np pc : Nat) (TA : Option Addr) (nt tc : Nat) (KA : Option Addr) (nk kc : Nat) (m : NT), k ≤ lp ∧ i = .int .i64 k ∧ Hid (GetLoop w d n p k lf PA np pc TA nt tc KA nk kc m wr)) (fun i _ => lp - (intOf i).toNat)
  case atStart => exact ⟨0, _, _, _, _, _, _, _, _, _, _, n, Nat.zero_le _, rfl, HL0⟩
  case round =>
    clear HL0
    obtain ⟨k, lf, PA, np, pc, TA, nt, tc, KA, nk, kc, m, hk, rfl, HL⟩ := hrel
    have hbr := HL.out.below
    have hsz := hbr.size
    obtain ⟨x0, x1, x2, x3, y0, y1, y2, y3⟩ := blkCells HL.out.var
    obtain ⟨z0, z1, z2, z3, f0, f1, f2, f3⟩ := blkCells HL.out.res
    have hl1 := lt_of_block HL.out.res
    by_cases hlt : k < lp
    · obtain ⟨b, o, rfl, hbl, hc⟩ := (HP.out.below hbr).at_ (k := k) (by rw [HLP.out]; exact hlt)
      obtain ⟨i, hi⟩ : ∃ i, iAt p k = i := ⟨_, rfl⟩
      rw [hi] at hc
      have hnode := HL.out.node
      obtain ⟨d', lf', ps, tx, ks, PA', pc', TA', tc', KA', kc', hd', hm', ev, hps, htx, hfit, hks⟩ := hnode.open_
      simp only [Value.agg.injEq, Array.mk.injEq, List.cons.injEq, Value.bool.injEq, Value.slice.injEq, and_true] at ev
      obtain ⟨rfl, ⟨rfl, rfl, rfl⟩, ⟨rfl, rfl, rfl⟩, rfl, rfl, rfl⟩ := ev
      have hl3 := hfit.2.2.2.1
      cases hb : hasB m i
      · have HE := hd (getE_none (getO_stop (by rw [HLP.out]; exact hlt) HL.out.at_ (by rw [hi]; exact kid_none hb)))
        have HC := hd (haskid_any m i false hb d wr _ ((hnode.more hsz)))
        have HBR := hd hbr
        have HRES := hd HL.out.res
        have hnk : m.ks.length = ks.length := by rw [hm']; rfl
        have hno : i < 0 ∨ 0 ≤ i ∧ (ks.length : Int) ≤ i := by
          rcases (show i < 0 ∨ 0 ≤ i by omega) with h | h
          · exact .inl h
          · refine .inr ⟨h, ?_⟩
            rcases (show (ks.length : Int) ≤ i ∨ i < ks.length by omega) with h2 | h2
            · exact h2
            · rw [hasB_iff.2 ⟨h, by rw [hnk]; exact h2⟩] at hb; cases hb
        clear hnode hps htx hfit hks hb hi hm' hd' hbr hnk
        rcases hno with g1 | ⟨g1, g2⟩
        all_goals
          go_wp2_with (first | (go_at_call 69; refine HC.out.mono ?_; rintro e w2 ⟨rfl, b2⟩; have HR2 := hd (keepBlk HRES.out b2); have hl2 := b2.size; obtain ⟨r0, r1, r2, r3, r4, r5, r6, r7⟩ := blkCells HR2.out))
          have h7 := set4_block (a := .bool false) (b := .slice none 0 0) (c := .slice none 0 0) (d := .slice none 0 0) (by first | exact HR2.out | exact HRES.out)
          obtain ⟨t0, t1, t2, t3, _, _, _, _⟩ := blkCells h7
          refine bodyPost_ret (v := .tuple #[.agg #[.bool false, .slice none 0 0, .slice none 0 0, .slice none 0 0], .int .i64 5]) (by simp [results, Try.results57, go_sem, t0, t1, t2, t3]) rfl (newNO_ret HE.out (zero_topO _ 0 _) ?_)
          exact ((((show Below w.heap.size w _ from (by first | exact HBR.out.trans (b2.mono HBR.out.size) | exact HBR.out)).setCell (by show _ ≤ w.heap.size + 1; omega) _).setCell (by show _ ≤ w.heap.size + 1; omega) _).setCell (by show _ ≤ w.heap.size + 1; omega) _).setCell (by show _ ≤ w.heap.size + 1; omega) _
      · have HK := hd (hasB_iff.1 hb)
        obtain ⟨j, hj⟩ : ∃ j : Nat, i = (j : Int) := ⟨i.toNat, by have := HK.out; omega⟩
        subst hj
        have hj1 : j < ks.length := by have := HK.out; rw [hm'] at this; simp only [NT.ks] at this; omega
        have HC := hd (haskid_any m (j : Int) true hb d wr _ ((hnode.more hsz)))
        have HKS := hd hks
        have HI := hd hi
        have HM := hd hm'
        have HD := hd hd'
        have HBR := hd hbr
        clear hnode hps htx hfit hks hb hi hm' hd' z0 z1 z2 z3 f0 f1 f2 f3 hbr
        have HVAR := hd HL.out.var
        obtain ⟨m2, b', o', lf2, PA2, np2, pc2, TA2, nt2, tc2, KA2, nk2, kc2, hm2, rfl, hbg2, hnm2, c0, c1, c2, c3⟩ := HKS.out.at_ hj1
        have hg := hd (show getO n (p.take (k + 1)) = some m2 by rw [getO_take_step (by rw [HLP.out]; exact hlt) HL.out.at_, HI.out]; unfold kidT; rw [if_pos (by omega), HM.out]; exact hm2)
        have HN2 := hd (hnm2.deep (d' := d) (by have := HD.out; omega))
        have HM2 := hd hm2
        clear hnm2 hm2
        go_wp2_with (first | (go_at_call 69; refine HC.out.mono ?_; rintro e w2 ⟨rfl, b2⟩; have hl2 := b2.size; obtain ⟨u0, u1, u2, u3, u4, u5, u6, u7⟩ := blkCells (keepBlk HVAR.out b2); have e0 := (b2.cell (cell_in c0)).trans c0; have e1 := (b2.cell (cell_in c1)).trans c1; have e2 := (b2.cell (cell_in c2)).trans c2; have e3 := (b2.cell (cell_in c3)).trans c3; clear c0 c1 c2 c3 x0 x1 x2 x3 y0 y1 y2 y3))
        go_roundw
        case rel => exact ⟨k + 1, _, _, _, _, _, _, _, _, _, _, m2, by omega, by go_num, hd (get_step HL.out (by first | exact b2 | exact Below.refl _ _) hg.out (by first | exact HN2.out.below (b2.mono hsz) | exact HN2.out))⟩
        case measure => simp [intOf]; omega
    · have HE := hd (getE_some (n := n) (m := m) (p := p) (by have := HL.out.at_; rwa [List.take_of_length_le (by rw [HLP.out]; omega)] at this))
      have HRES := hd HL.out.res
      have HBR := hd hbr
      have HN := hd (HL.out.node.more hsz)
      clear z0 z1 z2 z3 f0 f1 f2 f3 hbr
      go_wp2_with (first | (go_at_call 70; refine Calls.mono (copyO_any _ _ _ _ HN.out) ?_; intro e w4 h4; obtain ⟨v4, rfl, ht4, hb4⟩ := h4; obtain ⟨lf4, PA4, np4, pc4, TA4, nt4, tc4, KA4, nk4, kc4, rfl⟩ := ht4.val; have HR4 := hd (keepBlk HRES.out hb4); obtain ⟨r0, r1, r2, r3, r4, r5, r6, r7⟩ := blkCells HR4.out; have HT4 := hd ht4; have HB4 := hd hb4; have hl4 := hb4.size; clear ht4 hb4))
      have h7 := set4_block (a := .bool lf4) (b := .slice PA4 np4 pc4) (c := .slice TA4 nt4 tc4) (d := .slice KA4 nk4 kc4) HR4.out
      obtain ⟨t0, t1, t2, t3, _, _, _, _⟩ := blkCells h7
      have hb7 : Below w.heap.size w w4 := HBR.out.trans (HB4.out.mono HBR.out.size)
      refine bodyPost_ret (v := .tuple #[.agg #[.bool lf4, .slice PA4 np4 pc4, .slice TA4 nt4 tc4, .slice KA4 nk4 kc4], .int .i64 0]) (by simp [results, Try.results57, go_sem, t0, t1, t2, t3]) rfl (newNO_ret HE.out ((HT4.out.keep (by simp) (fun b h1 _ => ?_)).base (by omega)) ?_)
      · have hne : b ≠ w.heap.size + 1 := by omega
        iterate 4 rw [Below.heap_setCell _ _ _ _ (by simpa using hne)]
      · exact (((hb7.setCell (by show _ ≤ w.heap.size + 1; omega) _).setCell (by show _ ≤ w.heap.size + 1; omega) _).setCell (by show _ ≤ w.heap.size + 1; omega) _).setCell (by show _ ≤ w.heap.size + 1; omega) _
end Go.Proofs.Ytmglnjmnabjjgaa

namespace Go.Proofs.Ytmglnjmnabjjgaa
open Go.RowKit

theorem tget_any (d : Nat) (w : World) (v : Value) (n : NT) (A : Option Addr) (p : List Int) (lp c : Nat) (hlp : p.length = lp) (hl : lp ≤ 10000000) (hn : NodeAt d w w.heap.size v n) (hp : IL w w.heap.size A p) :
    Calls Try.prog 57 #[v, .slice A lp c] w (NewN (getE n p) w) :=
  (tgetO_any d w v n A p lp c hlp hl hn hp).mono fun _ _ ⟨v, d, h1, h2, h3⟩ => ⟨v, d + 1, h1, h2.tree, h3⟩
end Go.Proofs.Ytmglnjmnabjjgaa

namespace Go.Proofs.Ytmglnjmnabjjgaa
open Go.RowKit
/-! A block of two cells. -/
section
variable {w w' : World} {g : Nat} {a b x y : Value} {t : TypeId}
set_option maxRecDepth 4000 in
theorem blk2 (h : w.heap[g]? = some (.cells #[a, b] t (0, 0))) : w.cell? ⟨g, 0, none⟩ = some a ∧ w.cell? ⟨g, 1, none⟩ = some b ∧ w.frozen? ⟨g, 0, none⟩ = false ∧ w.frozen? ⟨g, 1, none⟩ = false := by
  refine ⟨?_, ?_, ?_, ?_⟩ <;> simp [World.cell?, World.frozen?, h]
end
set_option maxRecDepth 4000 in
theorem pt_new (w : World) (o o' : Obj) : ((w.alloc o).alloc o').heap[w.heap.size]? = some o ∧ ((w.alloc o).alloc o').heap[w.heap.size + 1]? = some o' := by
  refine ⟨?_, ?_⟩
  · rw [Below.heap_alloc _ _ _ (by simp)]; exact heap_alloc_new _ _
  · rw [← sz1 (w := w) (A := o)]; exact heap_alloc_new _ _

end Go.Proofs.Ytmglnjmnabjjgaa

namespace Go.Proofs.Ytmglnjmnabjjgaa

def offT (n : NT) (q : List Int) : Int := match getO n q with
  | none => 0
  | some m => m.tx.length
def chkP (n : NT) (p : List Int × Int) : Int := match getO n p.1 with
  | none => 5
  | some m => if m.lf = false then 7 else if p.2 < 0 ∨ (m.tx.length : Int) < p.2 then 8 else 0

/-! The last leaf ahead of a path: by the Kids, from the last one on. -/
/-! The first leaf from a path on. -/
/-! The same by the list of the leaves. -/
end Go.Proofs.Ytmglnjmnabjjgaa

namespace Go.Proofs.Ytmglnjmnabjjgaa
open Go.RowKit
def eO : Option (List Int) → Int
  | none => 14
  | some _ => 0
end Go.Proofs.Ytmglnjmnabjjgaa

namespace Go.Proofs.Ytmglnjmnabjjgaa
open Go.RowKit
set_option maxRecDepth 4000 in
theorem same_at {w W : World} {u v : Value} {p q : List Int × Int} (hb : Below w.heap.size w W) (hp : PtAt w u p) (hq : PtAt w v q) : Calls Try.prog 48 #[u, v] W (Still (.bool (samP p q)) W) := by
  obtain ⟨A, n, c, rfl, h1, h2, _, h3⟩ := hp.later hb
  obtain ⟨B, m, d, rfl, g1, g2, _, g3⟩ := hq.later hb
  exact psame_pts A B p q n m c d W h1 g1 (by omega) (by omega) h3 g3
end Go.Proofs.Ytmglnjmnabjjgaa

namespace Go.Proofs.Ytmglnjmnabjjgaa
/-- Whether a ref may be. -/
def zP (p : List Int × Int) : Bool := samP p ([], 0)
def chkR (n : NT) (r : RefP) : Int :=
  if r.kind = 1 then (if r.aff ≠ 0 ∨ zP r.q = false ∨ (zP r.a && zP r.f) = false then 1 else (getE n r.p).2)
  else if r.kind = 2 then (if r.aff < 0 ∨ 2 < r.aff ∨ r.p.length ≠ 0 ∨ (zP r.a && zP r.f) = false then 1 else chkP n r.q)
  else if r.kind = 3 then (if r.aff < 0 ∨ 4 < r.aff ∨ r.p.length ≠ 0 ∨ zP r.q = false then 1 else if chkP n r.a ≠ 0 then chkP n r.a else chkP n r.f)
  else 1
/-- One more ref, one by its number, the others. -/
def withR (id : Int) (r : RefP) : RefP := { r with id := id, live := true }
def addR (n : NT) (l : List RefP) (id : Int) (r : RefP) : List RefP × Int :=
  if chkR n r ≠ 0 then ([], chkR n r) else if 256 ≤ l.length then ([], 2) else (l ++ [withR id r], 0)
def getR (id : Int) : List RefP → RefP × Int
  | [] => (zeroR, 14)
  | r :: l => if r.id = id then (r, 0) else getR id l
def freeR (id : Int) : List RefP → List RefP × Int
  | [] => ([], 14)
  | r :: l => if r.id = id then (l, 0) else if (freeR id l).2 = 0 then (r :: (freeR id l).1, 0) else ([], 14)
/-- Where the first ref with a number stands. -/
def firstR (id : Int) (l : List RefP) (k : Nat) : Prop := (∃ r, l[k]? = some r ∧ r.id = id) ∧ ∀ j s, j < k → l[j]? = some s → s.id ≠ id
set_option maxRecDepth 4000 in
theorem getR_at : ∀ {l : List RefP} {id : Int} {k : Nat} {r : RefP}, firstR id l k → l[k]? = some r → getR id l = (r, 0)
  | [], _, _, _, _, h => by simp at h
  | x :: l, id, 0, r, h, h2 => by
    simp only [List.getElem?_cons_zero, Option.some.injEq] at h2
    subst h2
    obtain ⟨⟨s, h3, h4⟩, _⟩ := h
    simp only [List.getElem?_cons_zero, Option.some.injEq] at h3
    subst h3
    rw [getR, if_pos h4]
  | x :: l, id, k + 1, r, h, h2 => by
    rw [getR, if_neg (h.2 0 x (by omega) rfl)]
    exact getR_at ⟨by simpa using h.1, fun j s hj hs => h.2 (j + 1) s (by omega) (by simpa using hs)⟩ (by simpa using h2)
set_option maxRecDepth 4000 in
theorem getR_no : ∀ {l : List RefP} {id : Int}, (∀ (j : Nat) (s : RefP), l[j]? = some s → s.id ≠ id) → getR id l = (zeroR, 14)
  | [], _, _ => rfl
  | x :: l, id, h => by
    rw [getR, if_neg (h 0 x rfl)]
    exact getR_no fun j s hs => h (j + 1) s (by simpa using hs)
set_option maxRecDepth 4000 in
theorem freeR_at : ∀ {l : List RefP} {id : Int} {k : Nat}, firstR id l k → freeR id l = (l.take k ++ l.drop (k + 1), 0)
  | [], _, _, h => by obtain ⟨⟨r, h, _⟩, _⟩ := h; simp at h
  | x :: l, id, 0, h => by
    obtain ⟨⟨s, h3, h4⟩, _⟩ := h
    simp only [List.getElem?_cons_zero, Option.some.injEq] at h3
    subst h3
    rw [freeR, if_pos h4]
    rfl
  | x :: l, id, k + 1, h => by
    have e := freeR_at (l := l) (id := id) (k := k) ⟨by simpa using h.1, fun j s hj hs => h.2 (j + 1) s (by omega) (by simpa using hs)⟩
    rw [freeR, if_neg (h.2 0 x (by omega) rfl), e, if_pos rfl]
    rfl
set_option maxRecDepth 4000 in
theorem freeR_no : ∀ {l : List RefP} {id : Int}, (∀ (j : Nat) (s : RefP), l[j]? = some s → s.id ≠ id) → freeR id l = ([], 14)
  | [], _, _ => rfl
  | x :: l, id, h => by
    have e := freeR_no (l := l) (id := id) fun j s hs => h (j + 1) s (by simpa using hs)
    rw [freeR, if_neg (h 0 x rfl), e, if_neg (by decide)]
set_option maxRecDepth 4000 in
/-- What is added is got, and freed. -/
theorem get_added : ∀ {l : List RefP} {id : Int} (r : RefP), (∀ s ∈ l, s.id ≠ id) → getR id (l ++ [withR id r]) = (withR id r, 0)
  | [], id, r, _ => by rw [List.nil_append, getR, if_pos (show (withR id r).id = id from rfl)]
  | x :: l, id, r, h => by
    rw [List.cons_append, getR, if_neg (h x (by simp))]
    exact get_added r fun s hs => h s (by simp [hs])
set_option maxRecDepth 4000 in
theorem free_added : ∀ {l : List RefP} {id : Int} (r : RefP), (∀ s ∈ l, s.id ≠ id) → freeR id (l ++ [withR id r]) = (l, 0)
  | [], id, r, _ => by rw [List.nil_append, freeR, if_pos (show (withR id r).id = id from rfl)]
  | x :: l, id, r, h => by
    rw [List.cons_append, freeR, if_neg (h x (by simp)), free_added r (fun s hs => h s (by simp [hs])), if_pos rfl]

end Go.Proofs.Ytmglnjmnabjjgaa

namespace Go.Proofs.Ytmglnjmnabjjgaa
open Go.RowKit

set_option maxHeartbeats 4000000 in
theorem ptcheck_any (d : Nat) (w : World) (v : Value) (n : NT) (A : Option Addr) (p : List Int × Int) (lp c : Nat) (hlp : p.1.length = lp) (hl : lp ≤ 10000000) (hn : NodeAt d w w.heap.size v n) (hp : IL w w.heap.size A p.1) :
    Calls Try.prog 41 #[v, .agg #[.slice A lp c, .int .i64 p.2]] w (Still (.int .i64 (chkP n p)) w) := by
  obtain ⟨lf, PA, np, pc, TA, nt, tc, KA, nk, kc, rfl⟩ := hn.val
  obtain ⟨W0, hW⟩ : ∃ W0, W0 = (w.alloc (.cells #[.bool lf, .slice PA np pc, .slice TA nt tc, .slice KA nk kc] 26)).alloc (.cells #[.slice A lp c, .int .i64 p.2] 30) := ⟨_, rfl⟩
  have hb0 : Below w.heap.size w W0 := hW ▸ below_mono2 (Below.refl _ _) (Nat.le_refl _)
  have e0 := pt_new w (Obj.cells #[Value.bool lf, .slice PA np pc, .slice TA nt tc, .slice KA nk kc] 26) (Obj.cells #[Value.slice A lp c, Value.int .i64 p.2] 30)
  rw [← hW] at e0
  have HK := hd (show ∀ W, Below W0.heap.size W0 W → (W.cell? ⟨w.heap.size, 0, none⟩ = some (.bool lf) ∧ W.cell? ⟨w.heap.size, 1, none⟩ = some (.slice PA np pc) ∧ W.cell? ⟨w.heap.size, 2, none⟩ = some (.slice TA nt tc) ∧ W.cell? ⟨w.heap.size, 3, none⟩ = some (.slice KA nk kc) ∧ W.cell? ⟨w.heap.size + 1, 0, none⟩ = some (.slice A lp c) ∧ W.cell? ⟨w.heap.size + 1, 1, none⟩ = some (.int .i64 p.2)) from fun W h => by
    have h1 := blkCells (keepBlk e0.1 h)
    have h2 := blk2 (keepBlk e0.2 h)
    exact ⟨h1.1, h1.2.1, h1.2.2.1, h1.2.2.2.1, h2.1, h2.2.1⟩)
  obtain ⟨x0, x1, x2, x3, y0, y1⟩ := HK.out _ (Below.refl _ _)
  have HW := hd hW
  have HB0 := hd hb0
  have hC := tget_any d W0 _ n A p.1 lp c hlp hl (hn.later hb0) (hp.later hb0)
  clear hn hp hW hb0 e0 hlp hl
  obtain ⟨o, ho⟩ : ∃ o, o = p.2 := ⟨_, rfl⟩
  cases hg : getO n p.1 with
  | none =>
    rw [getE_none hg] at hC
    have HC := hd hC
    have HF := hd (show chkP n p = 5 by unfold chkP; rw [hg])
    have HM1 := hd (show ((zeroT, 5) : NT × Int).1 = .mk false [] [] [] from rfl)
    clear hg hC ho o
    go_enter Try.func41, Try.ntmps41
    go_wp2_with (go_at_call 57; rw [← HW.out]; refine HC.out.mono ?_; intro e w1 h1; obtain ⟨v1, d1, rfl, ht1, hb1⟩ := h1; obtain ⟨d', lf1, ps1, tx1, ks1, PA1, pc1, TA1, tc1, KA1, kc1, _, hm1, rfl, _, _, hf1, _⟩ := (ht1.at_ (B := w1.heap.size) (fun b hb => hb.2)).open_; have hm1' := HM1.out.symm.trans hm1; clear hm1; injection hm1' with e1 e2 e3 e4; subst e1 e2 e3 e4; have hf2 := hf1.2.2.1; have HB1 := hd hb1; clear ht1 hb1 hf1 x0 x1 x2 x3 y0 y1; obtain ⟨x0, x1, x2, x3, y0, y1⟩ := HK.out _ HB1.out; have hl0 := cell_in x0; have hl1 := cell_in y1)
    go_ret
    exact ⟨ret_int HF.out.symm, HB0.out.trans ((HB1.out.alloc HB1.out.size _).mono HB0.out.size)⟩
  | some m =>
    rw [getE_some hg] at hC
    have HC := hd hC
    cases m with
    | mk ml mp mx mk =>
      have hF : chkP n p = if ml = false then 7 else if p.2 < 0 ∨ (mx.length : Int) < p.2 then 8 else 0 := by unfold chkP; rw [hg]; rfl
      have HM1 := hd (show ((NT.mk ml mp mx mk, 0) : NT × Int).1 = .mk ml mp mx mk from rfl)
      clear hg hC
      cases ml with
      | false =>
        have HF := hd (hF.trans (if_pos rfl))
        clear hF ho o
        go_enter Try.func41, Try.ntmps41
        go_wp2_with (go_at_call 57; rw [← HW.out]; refine HC.out.mono ?_; intro e w1 h1; obtain ⟨v1, d1, rfl, ht1, hb1⟩ := h1; obtain ⟨d', lf1, ps1, tx1, ks1, PA1, pc1, TA1, tc1, KA1, kc1, _, hm1, rfl, _, _, hf1, _⟩ := (ht1.at_ (B := w1.heap.size) (fun b hb => hb.2)).open_; have hm1' := HM1.out.symm.trans hm1; clear hm1; injection hm1' with e1 e2 e3 e4; subst e1 e2 e3 e4; have hf2 := hf1.2.2.1; have HB1 := hd hb1; clear ht1 hb1 hf1 x0 x1 x2 x3 y0 y1; obtain ⟨x0, x1, x2, x3, y0, y1⟩ := HK.out _ HB1.out; have hl0 := cell_in x0; have hl1 := cell_in y1)
        go_ret
        exact ⟨ret_int HF.out.symm, HB0.out.trans ((HB1.out.alloc HB1.out.size _).mono HB0.out.size)⟩
      | true =>
        rw [if_neg (by simp)] at hF
        rw [← ho] at hF y1 HK HW ⊢
        by_cases h1 : o < 0
        · have HF := hd (hF.trans (if_pos (.inl h1)))
          clear hF ho
          go_enter Try.func41, Try.ntmps41
          go_wp2_with (go_at_call 57; rw [← HW.out]; refine HC.out.mono ?_; intro e w1 h1; obtain ⟨v1, d1, rfl, ht1, hb1⟩ := h1; obtain ⟨d', lf1, ps1, tx1, ks1, PA1, pc1, TA1, tc1, KA1, kc1, _, hm1, rfl, _, _, hf1, _⟩ := (ht1.at_ (B := w1.heap.size) (fun b hb => hb.2)).open_; have hm1' := HM1.out.symm.trans hm1; clear hm1; injection hm1' with e1 e2 e3 e4; subst e1 e2 e3 e4; have hf2 := hf1.2.2.1; have HB1 := hd hb1; clear ht1 hb1 hf1 x0 x1 x2 x3 y0 y1; obtain ⟨x0, x1, x2, x3, y0, y1⟩ := HK.out _ HB1.out; have hl0 := cell_in x0; have hl1 := cell_in y1)
          go_ret
          exact ⟨ret_int HF.out.symm, HB0.out.trans ((HB1.out.alloc HB1.out.size _).mono HB0.out.size)⟩
        · by_cases h2 : (mx.length : Int) < o
          · have HF := hd (hF.trans (if_pos (.inr h2)))
            clear hF ho
            go_enter Try.func41, Try.ntmps41
            go_wp2_with (go_at_call 57; rw [← HW.out]; refine HC.out.mono ?_; intro e w1 h1; obtain ⟨v1, d1, rfl, ht1, hb1⟩ := h1; obtain ⟨d', lf1, ps1, tx1, ks1, PA1, pc1, TA1, tc1, KA1, kc1, _, hm1, rfl, _, _, hf1, _⟩ := (ht1.at_ (B := w1.heap.size) (fun b hb => hb.2)).open_; have hm1' := HM1.out.symm.trans hm1; clear hm1; injection hm1' with e1 e2 e3 e4; subst e1 e2 e3 e4; have hf2 := hf1.2.2.1; have HB1 := hd hb1; clear ht1 hb1 hf1 x0 x1 x2 x3 y0 y1; obtain ⟨x0, x1, x2, x3, y0, y1⟩ := HK.out _ HB1.out; have hl0 := cell_in x0; have hl1 := cell_in y1)
            go_ret
            exact ⟨ret_int HF.out.symm, HB0.out.trans ((HB1.out.alloc HB1.out.size _).mono HB0.out.size)⟩
          · have HF := hd (hF.trans (if_neg (by omega)))
            clear hF ho
            go_enter Try.func41, Try.ntmps41
            go_wp2_with (go_at_call 57; rw [← HW.out]; refine HC.out.mono ?_; intro e w1 h1; obtain ⟨v1, d1, rfl, ht1, hb1⟩ := h1; obtain ⟨d', lf1, ps1, tx1, ks1, PA1, pc1, TA1, tc1, KA1, kc1, _, hm1, rfl, _, _, hf1, _⟩ := (ht1.at_ (B := w1.heap.size) (fun b hb => hb.2)).open_; have hm1' := HM1.out.symm.trans hm1; clear hm1; injection hm1' with e1 e2 e3 e4; subst e1 e2 e3 e4; have hf2 := hf1.2.2.1; have HB1 := hd hb1; clear ht1 hb1 hf1 x0 x1 x2 x3 y0 y1; obtain ⟨x0, x1, x2, x3, y0, y1⟩ := HK.out _ HB1.out; have hl0 := cell_in x0; have hl1 := cell_in y1)
            go_ret
            exact ⟨ret_int HF.out.symm, HB0.out.trans ((HB1.out.alloc HB1.out.size _).mono HB0.out.size)⟩
end Go.Proofs.Ytmglnjmnabjjgaa

namespace Go.Proofs.Ytmglnjmnabjjgaa
open Go.RowKit
def samS (s t : Sl) : Bool := s.is == t.is && samP s.a t.a && samP s.f t.f
set_option maxRecDepth 4000 in
theorem blk5 {w : World} {g : Nat} {a b c d e : Value} {t : TypeId} (h : w.heap[g]? = some (.cells #[a, b, c, d, e] t (0, 0))) : w.cell? ⟨g, 0, none⟩ = some a ∧ w.cell? ⟨g, 1, none⟩ = some b ∧ w.cell? ⟨g, 2, none⟩ = some c ∧ w.cell? ⟨g, 3, none⟩ = some d ∧ w.cell? ⟨g, 4, none⟩ = some e := by
  refine ⟨?_, ?_, ?_, ?_, ?_⟩ <;> simp [World.cell?, h]
set_option maxRecDepth 4000 in
theorem PtAt.zero (w : World) : PtAt w (.agg #[.slice none 0 0, .int .i64 0]) ([], 0) := ⟨none, 0, 0, rfl, rfl, by omega, Nat.le_refl _, IL.nil _ _ _⟩

set_option maxRecDepth 4000 in
set_option maxHeartbeats 4000000 in
theorem samesel_any (w : World) (s t : Sl) (A B C D : Option Addr) (na nb nc nd ca cb cc cd : Nat) (hA : PtAt w (.agg #[.slice A na ca, .int .i64 s.a.2]) s.a) (hB : PtAt w (.agg #[.slice B nb cb, .int .i64 s.f.2]) s.f) (hC : PtAt w (.agg #[.slice C nc cc, .int .i64 t.a.2]) t.a) (hD : PtAt w (.agg #[.slice D nd cd, .int .i64 t.f.2]) t.f) :
    Calls Try.prog 49 #[.agg #[.bool s.is, .slice A na ca, .int .i64 s.a.2, .slice B nb cb, .int .i64 s.f.2], .agg #[.bool t.is, .slice C nc cc, .int .i64 t.a.2, .slice D nd cd, .int .i64 t.f.2]] w (Still (.bool (samS s t)) w) := by
  obtain ⟨si, sa, sf⟩ := s
  obtain ⟨ti, ta, tf⟩ := t
  simp only at hA hB hC hD ⊢
  obtain ⟨W0, hW⟩ : ∃ W0, (w.alloc (.cells #[.bool si, .slice A na ca, .int .i64 sa.2, .slice B nb cb, .int .i64 sf.2] 51)).alloc (.cells #[.bool ti, .slice C nc cc, .int .i64 ta.2, .slice D nd cd, .int .i64 tf.2] 51) = W0 := ⟨_, rfl⟩
  have hb0 : Below w.heap.size w W0 := hW ▸ below_mono2 (Below.refl _ _) (Nat.le_refl _)
  have e0 := pt_new w (Obj.cells #[Value.bool si, .slice A na ca, .int .i64 sa.2, .slice B nb cb, .int .i64 sf.2] 51) (Obj.cells #[Value.bool ti, .slice C nc cc, .int .i64 ta.2, .slice D nd cd, .int .i64 tf.2] 51)
  rw [hW] at e0
  have HK := hd (show ∀ W, Below W0.heap.size W0 W → (W.cell? ⟨w.heap.size, 0, none⟩ = some (.bool si) ∧ W.cell? ⟨w.heap.size, 1, none⟩ = some (.slice A na ca) ∧ W.cell? ⟨w.heap.size, 2, none⟩ = some (.int .i64 sa.2) ∧ W.cell? ⟨w.heap.size, 3, none⟩ = some (.slice B nb cb) ∧ W.cell? ⟨w.heap.size, 4, none⟩ = some (.int .i64 sf.2) ∧
      W.cell? ⟨w.heap.size + 1, 0, none⟩ = some (.bool ti) ∧ W.cell? ⟨w.heap.size + 1, 1, none⟩ = some (.slice C nc cc) ∧ W.cell? ⟨w.heap.size + 1, 2, none⟩ = some (.int .i64 ta.2) ∧ W.cell? ⟨w.heap.size + 1, 3, none⟩ = some (.slice D nd cd) ∧ W.cell? ⟨w.heap.size + 1, 4, none⟩ = some (.int .i64 tf.2)) from fun W h => by
    obtain ⟨h0, h1, h2, h3, h4⟩ := blk5 (keepBlk e0.1 h)
    obtain ⟨g0, g1, g2, g3, g4⟩ := blk5 (keepBlk e0.2 h)
    exact ⟨h0, h1, h2, h3, h4, g0, g1, g2, g3, g4⟩)
  obtain ⟨x0, x1, x2, x3, x4, y0, y1, y2, y3, y4⟩ := HK.out _ (Below.refl _ _)
  have HW := hd hW
  have HB0 := hd hb0
  obtain ⟨E1, hE1⟩ : ∃ E1, samP sa ta = E1 := ⟨_, rfl⟩
  obtain ⟨E2, hE2⟩ : ∃ E2, samP sf tf = E2 := ⟨_, rfl⟩
  have HC1 := hd (fun (W : World) (h : Below W0.heap.size W0 W) => hE1 ▸ same_at (w := W0) (W := W) h (hA.later hb0) (hC.later hb0))
  have HC2 := hd (fun (W : World) (h : Below W0.heap.size W0 W) => hE2 ▸ same_at (w := W0) (W := W) h (hB.later hb0) (hD.later hb0))
  have hF : samS ⟨si, sa, sf⟩ ⟨ti, ta, tf⟩ = (si == ti && E1 && E2) := by unfold samS; rw [hE1, hE2]
  rw [hF]
  clear hF hE1 hE2 hA hB hC hD hW hb0 e0
  by_cases hi : si = ti
  · subst hi
    have g1 : (si == si) = true := by simp
    cases E1 with
    | true =>
      go_enter Try.func49, Try.ntmps49
      go_wp2_with (first
        | (go_at_call 48; have _g := HB1; refine Calls.mono (HC2.out _ HB1.out) ?_; rintro e w2 ⟨rfl, b2⟩; have HB2 := hd (HB1.out.trans (b2.mono HB1.out.size)); clear b2)
        | (go_at_call 48; rw [HW.out]; refine Calls.mono (HC1.out _ (Below.refl _ _)) ?_; rintro e w1 ⟨rfl, b1⟩; have HB1 := hd b1; clear b1 x0 x1 x2 x3 x4 y0 y1 y2 y3 y4; obtain ⟨x0, x1, x2, x3, x4, y0, y1, y2, y3, y4⟩ := HK.out _ HB1.out))
      go_ret
      exact ⟨ret_bool (by simp), HB0.out.trans (HB2.out.mono HB0.out.size)⟩
    | false =>
      go_enter Try.func49, Try.ntmps49
      go_wp2_with (first
        | (go_at_call 48; have _g := HB1; refine Calls.mono (HC2.out _ HB1.out) ?_; rintro e w2 ⟨rfl, b2⟩; have HB2 := hd (HB1.out.trans (b2.mono HB1.out.size)); clear b2)
        | (go_at_call 48; rw [HW.out]; refine Calls.mono (HC1.out _ (Below.refl _ _)) ?_; rintro e w1 ⟨rfl, b1⟩; have HB1 := hd b1; clear b1 x0 x1 x2 x3 x4 y0 y1 y2 y3 y4; obtain ⟨x0, x1, x2, x3, x4, y0, y1, y2, y3, y4⟩ := HK.out _ HB1.out))
      go_ret
      exact ⟨ret_bool (by simp), HB0.out.trans (HB1.out.mono HB0.out.size)⟩
  · have g1 : (si == ti) = false := by simpa using hi
    clear hi
    go_enter Try.func49, Try.ntmps49
    go_wp2_with (first
      | (go_at_call 48; have _g := HB1; refine Calls.mono (HC2.out _ HB1.out) ?_; rintro e w2 ⟨rfl, b2⟩; have HB2 := hd (HB1.out.trans (b2.mono HB1.out.size)); clear b2)
      | (go_at_call 48; rw [HW.out]; refine Calls.mono (HC1.out _ (Below.refl _ _)) ?_; rintro e w1 ⟨rfl, b1⟩; have HB1 := hd b1; clear b1 x0 x1 x2 x3 x4 y0 y1 y2 y3 y4; obtain ⟨x0, x1, x2, x3, x4, y0, y1, y2, y3, y4⟩ := HK.out _ HB1.out))
    rw [HW.out]
    go_ret
    exact ⟨ret_bool (by simp [g1]), HB0.out⟩
set_option maxRecDepth 4000 in
/-- Check, in any later world. -/
theorem check_at {d : Nat} {w W : World} {u v : Value} {n : NT} {p : List Int × Int} (hb : Below w.heap.size w W) (hn : NodeAt d w w.heap.size u n) (hp : PtAt w v p) : Calls Try.prog 41 #[u, v] W (Still (.int .i64 (chkP n p)) W) := by
  obtain ⟨A, m, c, rfl, h1, h2, _, h3⟩ := hp.later hb
  exact ptcheck_any d W u n A p m c h1 h2 (hn.later hb) h3
end Go.Proofs.Ytmglnjmnabjjgaa

namespace Go.Proofs.Ytmglnjmnabjjgaa
open Go.RowKit
set_option maxRecDepth 4000 in
theorem row_node : ∃ d, Try.prog.underlying 26 = some d ∧ d.isRow = true ∧ (Try.prog.info? 26).map (·.size) = some 4 := ⟨.struct (Try.prog.fieldsOf 26), by kernel_rfl, rfl, by kernel_rfl⟩
set_option maxRecDepth 4000 in
theorem sz_int : (Try.prog.info? 3).map (·.size) = some 1 := by kernel_rfl
end Go.Proofs.Ytmglnjmnabjjgaa

namespace Go.Proofs.Ytmglnjmnabjjgaa
open Go.RowKit
section
variable {t : TypeId} {w w' : World} {g : Nat} {r r' : Array Value}
end
set_option maxRecDepth 4000 in
theorem rowT_node : RowT 26 4 := row_node
/-- Where a node's parts lie, and a selection's. -/
structure NC where
  lf : Bool
  P : Option Addr
  np : Nat
  pc : Nat
  X : Option Addr
  nt : Nat
  tc : Nat
  K : Option Addr
  nk : Nat
  kc : Nat
def NC.row (c : NC) : Array Value := #[.bool c.lf, .slice c.P c.np c.pc, .slice c.X c.nt c.tc, .slice c.K c.nk c.kc]
/-- c holds the tree n; c holds the selection s. -/
def HasN (w : World) (c : NC) (n : NT) : Prop := ∃ d, NodeAt d w w.heap.size (.agg c.row) n
set_option maxRecDepth 4000 in
theorem HasN.later {w w' : World} {c : NC} {n : NT} (h : HasN w c n) (hb : Below w.heap.size w w') : HasN w' c n := by
  obtain ⟨d, h⟩ := h
  exact ⟨d, h.later hb⟩
set_option maxRecDepth 4000 in
theorem has_node {d : Nat} {w : World} {v : Value} {n : NT} (h : NodeAt d w w.heap.size v n) : ∃ c : NC, v = .agg c.row ∧ HasN w c n := by
  cases d with
  | zero => exact h.elim
  | succ d =>
    obtain ⟨PA, pc, TA, tc, KA, kc, rfl, hp, ht, hf, hks⟩ := h
    exact ⟨⟨n.lf, PA, n.ps.length, pc, TA, n.tx.length, tc, KA, n.ks.length, kc⟩, rfl, d + 1, PA, pc, TA, tc, KA, kc, rfl, hp, ht, hf, hks⟩
end Go.Proofs.Ytmglnjmnabjjgaa

namespace Go.Proofs.Ytmglnjmnabjjgaa
open Go.RowKit
set_option maxRecDepth 4000 in
theorem lrowT_pt : RowT 30 2 := ⟨.struct (Try.prog.fieldsOf 30), by kernel_rfl, rfl, by kernel_rfl⟩
set_option maxRecDepth 4000 in
theorem RkA.with_ {w : World} {c : RC} {r : RefP} (h : RkA w c r) (id : Int) : RkA w { c with id := id, live := true } (withR id r) := { h with hid := rfl, hlv := rfl }

set_option maxRecDepth 4000 in
theorem cellsR_take (cs : List RC) (k : Nat) : (cellsR cs).take (k * 11) = cellsR (cs.take k) := by
  induction cs generalizing k with
  | nil => simp [cellsR]
  | cons c r ih =>
    cases k with
    | zero => simp [cellsR]
    | succ k =>
      rw [cellsR, List.flatMap_cons, List.take_succ_cons, cellsR, List.flatMap_cons, ← cellsR, ← cellsR, ← ih k, List.take_append]
      have e : c.row.toList.length = 11 := rfl
      rw [List.take_of_length_le (by omega), e, show (k + 1) * 11 - 11 = k * 11 by omega]
set_option maxRecDepth 4000 in
theorem cellsR_drop (cs : List RC) (k : Nat) : (cellsR cs).drop (k * 11) = cellsR (cs.drop k) := by
  induction cs generalizing k with
  | nil => simp [cellsR]
  | cons c r ih =>
    cases k with
    | zero => simp
    | succ k =>
      rw [cellsR, List.flatMap_cons, List.drop_succ_cons, ← cellsR, ← ih k, List.drop_append]
      have e : c.row.toList.length = 11 := rfl
      rw [List.drop_of_length_le (by omega), e, show (k + 1) * 11 - 11 = k * 11 by omega, List.nil_append]

/-- What is told: a ref and an error's number; a list of refs and an error's number. -/
def NewRE (w : World) (r : RefP × Int) (e : Ending) (w' : World) : Prop := ∃ c : RC, e = .returned (.tuple #[.agg c.row, .int .i64 r.2]) ∧ RkA w' c r.1 ∧ Below w.heap.size w w'
end Go.Proofs.Ytmglnjmnabjjgaa

namespace Go.Proofs.Ytmglnjmnabjjgaa
open Go.ChangeShapes Go.WideShapes Go.RowKit Go.Deep
section
variable {H : Type} {enc : TypeId × Value → H} {W : World} {base : Nat} {held : Bool}
set_option maxRecDepth 4000 in
/-- A ref that came in. -/
theorem open_ref {r : Reach} {b0 : Nat} {v : Value} {d : DataW H} {p : List MemPlace} (hv : Value.okWide Try.prog W r b0 34 v) (h : DataW.Trod enc Try.prog W base (fun _ => true) held 34 v d p) : ∃ (c : RC) (a : RefP), v = .agg c.row ∧ RkA W c a := by
  obtain ⟨fuel, hf⟩ := h
  obtain ⟨c, a, hcs, hok⟩ := ref_full hf
  obtain ⟨cs, rfl, hcz⟩ := okWide_struct fields_ref hv
  have e : cs = c.row := by
    apply Array.toList_inj.1
    simpa [Value.cells] using hcs
  subst e
  exact ⟨c, a, rfl, hok⟩
end

end Go.Proofs.Ytmglnjmnabjjgaa

namespace Go.Proofs.Ytmglnjmnabjjgaa
open Go.RowKit

section
variable {P : Program} {ops : Array Oper} {Q : Exit → Act → World → Prop} {S : World → Prop} {z : Nat → Bool}
set_option maxRecDepth 4000 in
/-- Just two may come up. -/
theorem Y_two {i j : Nat} {o p : Oper} {n : Nat} {listed : Array Bool} {a : Act} {w : World} (hr : Region.ready .any ops listed = [i, j]) (hi : ops[i]? = some o) (hj : ops[j]? = some p)
    (h : ∀ K : Act → World → Prop, (∀ a' w', (z i = false → S w') → wpAnyY P ops Q S z n (listed.setIfInBounds i true) a' w' → K a' w') → if Region.wanted o (yielded ops a.tmps) = true then Oper.wp P o a w K Q else False)
    (h' : ∀ K : Act → World → Prop, (∀ a' w', (z j = false → S w') → wpAnyY P ops Q S z n (listed.setIfInBounds j true) a' w' → K a' w') → if Region.wanted p (yielded ops a.tmps) = true then Oper.wp P p a w K Q else False) : wpAnyY P ops Q S z (n + 1) listed a w := by
  refine ⟨fun e => absurd (e.symm.trans hr) (by simp), fun k hk => ?_⟩
  rw [hr] at hk
  rcases List.mem_cons.1 hk with rfl | hk
  · have h1 := h (fun a' w' => (z k = false → S w') ∧ wpAnyY P ops Q S z n (listed.setIfInBounds k true) a' w') (fun a' w' h1 h2 => ⟨h1, h2⟩)
    unfold wpOp
    simp only [hi]
    split
    · rename_i hw
      rw [if_pos hw] at h1
      exact .inl h1
    · rename_i hw
      rw [if_neg hw] at h1
      exact h1.elim
  · rw [List.mem_singleton] at hk
    subst hk
    have h1 := h' (fun a' w' => (z k = false → S w') ∧ wpAnyY P ops Q S z n (listed.setIfInBounds k true) a' w') (fun a' w' h1 h2 => ⟨h1, h2⟩)
    unfold wpOp
    simp only [hj]
    split
    · rename_i hw
      rw [if_pos hw] at h1
      exact .inl h1
    · rename_i hw
      rw [if_neg hw] at h1
      exact h1.elim
end

end Go.Proofs.Ytmglnjmnabjjgaa

namespace Go.Proofs.Ytmglnjmnabjjgaa
open Go.RowKit

theorem firstR_step {us : List RefP} {id : Int} {k : Nat} {a : RefP} (h : ∀ (j : Nat) (s : RefP), j < k → us[j]? = some s → s.id ≠ id) (ha : us[k]? = some a) (hne : a.id ≠ id) : ∀ (j : Nat) (s : RefP), j < k + 1 → us[j]? = some s → s.id ≠ id := fun j s hj hs => by
  rcases Nat.lt_or_ge j k with h1 | h1
  · exact h j s h1 hs
  · obtain rfl : j = k := by omega
    rw [ha] at hs
    injection hs with hs
    subst hs
    exact hne
set_option maxRecDepth 4000 in
theorem result_ref2 {fn : Func} {p u : Tmp} (h : fn.results = #[.cell p 34, .tmp u]) (tmps : Array Value) (w : World) {g : Nat} {c : RC} (hv : VarR 34 w g c.row) (hp : tmps.getD p undef = .pointer (some ⟨g, 0, none⟩)) : (results fn tmps).run Try.prog w = .ok (.tuple #[.agg c.row, tmps.getD u undef]) w := by
  obtain ⟨d, h3, h4, h5⟩ := rowT_ref
  rw [results_cell_tmp h, hp]
  simp only [asAddr, Sem.run_pure, Result.andThen_ok, run_loadVar_row w g _ _ _ _ d hv h3 (by cases d <;> simp_all) h5]
end Go.Proofs.Ytmglnjmnabjjgaa

namespace Go.Proofs.Ytmglnjmnabjjgaa
open Go.RowKit
set_option maxRecDepth 4000 in
theorem RkL.take {w : World} {cs : List RC} {us : List RefP} (h : RkL w cs us) (k : Nat) : RkL w (cs.take k) (us.take k) := ⟨by simp [h.1], fun j c a h1 h2 => by
  rw [List.getElem?_take] at h1 h2
  split at h1
  · rename_i hj
    rw [if_pos hj] at h2
    exact h.2 j c a h1 h2
  · cases h1⟩
set_option maxRecDepth 4000 in
theorem RkL.drop {w : World} {cs : List RC} {us : List RefP} (h : RkL w cs us) (k : Nat) : RkL w (cs.drop k) (us.drop k) := ⟨by simp [h.1], fun j c a h1 h2 => by
  rw [List.getElem?_drop] at h1 h2
  exact h.2 _ c a h1 h2⟩
set_option maxRecDepth 4000 in
/-- A slice's beginning, and its rest. -/
theorem takeR_run (A : Option Addr) (n c k : Nat) (hk : k ≤ c) : ∀ W : World, (Instr.slice 27 (.slice A n c) none (some (.int .i64 (k : Int))) none).run Try.prog W = .ok (.slice A k c) W := fun W => by
  have he : Try.prog.elem 27 = 34 := by kernel_rfl
  have hs : ∀ W, (sizeOf 34).run Try.prog W = .ok 11 W := fun _ => by kernel_rfl
  rw [run_slice_h W 27 A n c (by rw [he]; exact Try.underlying27) .i64 _ (by omega) (by omega), he, hs]
  have e : (A.map fun x => x.add 0) = A := by
    cases A
    · rfl
    · simp [Addr.add]
  simp [Result.andThen, sliced, e]
set_option maxRecDepth 4000 in
theorem cutR_run (A : Option Addr) (n c k : Nat) (hk : k ≤ n) (hc : n ≤ c) : ∃ D : Option Addr, (∀ (w : World) (B : Nat) (cs : List RC), VL w B A (cellsR cs) → cs.length = n → VL w B D (cellsR (cs.drop k))) ∧
    (∀ W : World, (Instr.slice 27 (.slice A n c) (some (.int .i64 (k : Int))) none none).run Try.prog W = .ok (.slice D (n - k) (c - k)) W) := by
  refine ⟨if c = k then A else A.map (·.add (k * 11)), fun w B cs h hx => ?_, fun W => ?_⟩
  · have h2 := h.drop (k * 11) (c * 11) (n * 11) (by rw [cellsR_len, hx]) (by omega)
    rw [cellsR_drop, Nat.mul_one] at h2
    by_cases e : c = k
    · rw [if_pos e]
      rw [if_pos (by rw [e])] at h2
      exact h2
    · rw [if_neg e]
      rw [if_neg (by omega)] at h2
      exact h2
  · have he : Try.prog.elem 27 = 34 := by kernel_rfl
    have hs : ∀ W, (sizeOf 34).run Try.prog W = .ok 11 W := fun _ => by kernel_rfl
    rw [run_slice_l W 27 A n c (by rw [he]; exact Try.underlying27) .i64 _ (by omega) (by omega), he, hs]
    simp [Result.andThen, sliced]

set_option maxRecDepth 4000 in
theorem lwrap (x : Int) (h1 : 0 ≤ x) (h2 : x < 9223372036854775808) : IntKind.i64.wrap x = x := by simp [IntKind.wrap, IntKind.bits, IntKind.signed]; omega
set_option maxRecDepth 4000 in
theorem under_refs : Try.prog.underlying 27 = some (.slice (Try.prog.elem 27)) := by
  have he : Try.prog.elem 27 = 34 := by kernel_rfl
  rw [he]
  exact Try.underlying27
set_option maxRecDepth 4000 in
theorem exec_slice_h {ev : Operand → Value} {o : Oper} {x y : Operand} {v u r : Value} (h : ∀ W : World, (Instr.slice 27 v none (some u) none).run Try.prog W = .ok r W) (ho : o.op = .slice 27 x none (some y) none) (hx : ev x = v) (hy : ev y = u) (W : World) : (execOp ev o).run Try.prog W = .ok (.value r) W := by
  unfold execOp
  simp only [ho, Option.map_none, Option.map_some, hx, hy, Sem.run_bind, run_sliceAt_slice (h := under_refs), h W, Result.andThen_ok, Sem.run_pure]
set_option maxRecDepth 4000 in
theorem exec_slice_l {ev : Operand → Value} {o : Oper} {x y : Operand} {v u r : Value} (h : ∀ W : World, (Instr.slice 27 v (some u) none none).run Try.prog W = .ok r W) (ho : o.op = .slice 27 x (some y) none none) (hx : ev x = v) (hy : ev y = u) (W : World) : (execOp ev o).run Try.prog W = .ok (.value r) W := by
  unfold execOp
  simp only [ho, Option.map_none, Option.map_some, hx, hy, Sem.run_bind, run_sliceAt_slice (h := under_refs), h W, Result.andThen_ok, Sem.run_pure]
end Go.Proofs.Ytmglnjmnabjjgaa

namespace Go.Proofs.Ytmglnjmnabjjgaa
open Go.RowKit Go.Maps
set_option maxRecDepth 4000 in
theorem KM.lt {w : World} {b n : Nat} {D : DataW Value} (h : KM w b n D) : b < w.heap.size := World.ownsMap.lt h
set_option maxRecDepth 4000 in
theorem KM.off {w w' : World} {b g n : Nat} {D : DataW Value} (h : KM w b n D) (ho : Off g w w') (hne : b ≠ g) : KM w' b n D := World.ownsMap.kept (row := some g) h ⟨ho.os, ho.tape, ho.output, ho.size, fun i hi hg => ho.block i hi (fun e => hg (by rw [e]))⟩ (by simpa using hne)
end Go.Proofs.Ytmglnjmnabjjgaa
