/- Selections: SameSel, CheckSel, the program's and the document's. Fields stored into a variable of an operation. Variables that hold a node, a selection, or an operation: their rows of cells, loaded and stored whole. Refs in memory: where their parts lie, what their cells hold; lists of them. Arguments that are refs, or lists of them, opened: what their cells hold. Ranges, refs, and lists of refs compared: the document's answers. A region that draws its order: whatever order is picked, a fact S stands behind each operation but those that are named; what yields the same in each such world may be taken first. The map of kinds: what it holds, what is found in it. Whether a ref may be: the document's Check. What a ref has besides, whether a path leads somewhere: the program's strays, there. -/
import Derived.Test.YtmglnjmnabjjgaaJKCmp
import Derived.Test.YtmglnjmnabjjgaaJTGetAWA
import Derived.Test.YtmglnjmnabjjgaaJXMove5
import Derived.Test.YtmglnjmnabjjgaaJGTextWA
import Derived.Test.YtmglnjmnabjjgaaJGText
import Derived.Test.YtmglnjmnabjjgaaXMove
import Derived.Test.YtmglnjmnabjjgaaJXCalls
import Derived.Laws.Strings
import Derived.IntWalk
import Derived.Laws.AppendOwnNone
import Derived.Lib.AppendZeros
import Derived.Lib.SliceRun
import Derived.StillTailTactics
import Derived.Deep.Cut
import Derived.Deep.RegionHeld3
import Derived.Deep.RegionLaw
import Derived.BigRegion
import Derived.Deep.MidRow
import Derived.Laws.Tables
import Derived.Test.YtmglnjmnabjjgaaJNCopyOWA
import Derived.Laws.ResultCell
import Derived.Maps.OwnOps
import Derived.Shelf.Abstract
import Derived.Test.YtmglnjmnabjjgaaJLOpen
import Derived.ProofKit
import Derived.Deep.Slices
import Derived.Deep.Fields
import Derived.Carry
import Derived.OrdersHeld
import Derived.Test.YtmglnjmnabjjgaaJLFree
import Derived.Maps.OwnSet
namespace Go.Proofs.Ytmglnjmnabjjgaa
open Go.RowKit
def samS (s t : Sl) : Bool := s.is == t.is && samP s.a t.a && samP s.f t.f
set_option maxRecDepth 4000 in
theorem blk5 {w : World} {g : Nat} {a b c d e : Value} {t : TypeId} (h : w.heap[g]? = some (.cells #[a, b, c, d, e] t (0, 0))) : w.cell? ⟨g, 0, none⟩ = some a ∧ w.cell? ⟨g, 1, none⟩ = some b ∧ w.cell? ⟨g, 2, none⟩ = some c ∧ w.cell? ⟨g, 3, none⟩ = some d ∧ w.cell? ⟨g, 4, none⟩ = some e := by
  refine ⟨?_, ?_, ?_, ?_, ?_⟩ <;> simp [World.cell?, h]
set_option maxRecDepth 4000 in
theorem PtAt.zero (w : World) : PtAt w (.agg #[.slice none 0 0, .int .i64 0]) ([], 0) := ⟨none, 0, 0, rfl, rfl, by omega, Nat.le_refl _, IL.nil _ _ _⟩

set_option maxRecDepth 4000 in
set_option maxHeartbeats 4000000 in
theorem samesel_any (w : World) (s t : Sl) (A B C D : Option Addr) (na nb nc nd ca cb cc cd : Nat) (hA : PtAt w (.agg #[.slice A na ca, .int .i64 s.a.2]) s.a) (hB : PtAt w (.agg #[.slice B nb cb, .int .i64 s.f.2]) s.f) (hC : PtAt w (.agg #[.slice C nc cc, .int .i64 t.a.2]) t.a) (hD : PtAt w (.agg #[.slice D nd cd, .int .i64 t.f.2]) t.f) :
    Calls Try.prog 49 #[.agg #[.bool s.is, .slice A na ca, .int .i64 s.a.2, .slice B nb cb, .int .i64 s.f.2], .agg #[.bool t.is, .slice C nc cc, .int .i64 t.a.2, .slice D nd cd, .int .i64 t.f.2]] w (Still (.bool (samS s t)) w) := by
  obtain ⟨si, sa, sf⟩ := s
  obtain ⟨ti, ta, tf⟩ := t
  simp only at hA hB hC hD ⊢
  obtain ⟨W0, hW⟩ : ∃ W0, (w.alloc (.cells #[.bool si, .slice A na ca, .int .i64 sa.2, .slice B nb cb, .int .i64 sf.2] 51)).alloc (.cells #[.bool ti, .slice C nc cc, .int .i64 ta.2, .slice D nd cd, .int .i64 tf.2] 51) = W0 := ⟨_, rfl⟩
  have hb0 : Below w.heap.size w W0 := hW ▸ below_mono2 (Below.refl _ _) (Nat.le_refl _)
  have e0 := pt_new w (Obj.cells #[Value.bool si, .slice A na ca, .int .i64 sa.2, .slice B nb cb, .int .i64 sf.2] 51) (Obj.cells #[Value.bool ti, .slice C nc cc, .int .i64 ta.2, .slice D nd cd, .int .i64 tf.2] 51)
  rw [hW] at e0
  have HK := hd (show ∀ W, Below W0.heap.size W0 W → (W.cell? ⟨w.heap.size, 0, none⟩ = some (.bool si) ∧ W.cell? ⟨w.heap.size, 1, none⟩ = some (.slice A na ca) ∧ W.cell? ⟨w.heap.size, 2, none⟩ = some (.int .i64 sa.2) ∧ W.cell? ⟨w.heap.size, 3, none⟩ = some (.slice B nb cb) ∧ W.cell? ⟨w.heap.size, 4, none⟩ = some (.int .i64 sf.2) ∧
      W.cell? ⟨w.heap.size + 1, 0, none⟩ = some (.bool ti) ∧ W.cell? ⟨w.heap.size + 1, 1, none⟩ = some (.slice C nc cc) ∧ W.cell? ⟨w.heap.size + 1, 2, none⟩ = some (.int .i64 ta.2) ∧ W.cell? ⟨w.heap.size + 1, 3, none⟩ = some (.slice D nd cd) ∧ W.cell? ⟨w.heap.size + 1, 4, none⟩ = some (.int .i64 tf.2)) from fun W h => by
    obtain ⟨h0, h1, h2, h3, h4⟩ := blk5 (keepBlk e0.1 h)
    obtain ⟨g0, g1, g2, g3, g4⟩ := blk5 (keepBlk e0.2 h)
    exact ⟨h0, h1, h2, h3, h4, g0, g1, g2, g3, g4⟩)
  obtain ⟨x0, x1, x2, x3, x4, y0, y1, y2, y3, y4⟩ := HK.out _ (Below.refl _ _)
  have HW := hd hW
  have HB0 := hd hb0
  obtain ⟨E1, hE1⟩ : ∃ E1, samP sa ta = E1 := ⟨_, rfl⟩
  obtain ⟨E2, hE2⟩ : ∃ E2, samP sf tf = E2 := ⟨_, rfl⟩
  have HC1 := hd (fun (W : World) (h : Below W0.heap.size W0 W) => hE1 ▸ same_at (w := W0) (W := W) h (hA.later hb0) (hC.later hb0))
  have HC2 := hd (fun (W : World) (h : Below W0.heap.size W0 W) => hE2 ▸ same_at (w := W0) (W := W) h (hB.later hb0) (hD.later hb0))
  have hF : samS ⟨si, sa, sf⟩ ⟨ti, ta, tf⟩ = (si == ti && E1 && E2) := by unfold samS; rw [hE1, hE2]
  rw [hF]
  clear hF hE1 hE2 hA hB hC hD hW hb0 e0
  by_cases hi : si = ti
  · subst hi
    have g1 : (si == si) = true := by simp
    cases E1 with
    | true =>
      go_enter Try.func49, Try.ntmps49
      go_wp2_with (first
        | (go_at_call 48; have _g := HB1; refine Calls.mono (HC2.out _ HB1.out) ?_; rintro e w2 ⟨rfl, b2⟩; have HB2 := hd (HB1.out.trans (b2.mono HB1.out.size)); clear b2)
        | (go_at_call 48; rw [HW.out]; refine Calls.mono (HC1.out _ (Below.refl _ _)) ?_; rintro e w1 ⟨rfl, b1⟩; have HB1 := hd b1; clear b1 x0 x1 x2 x3 x4 y0 y1 y2 y3 y4; obtain ⟨x0, x1, x2, x3, x4, y0, y1, y2, y3, y4⟩ := HK.out _ HB1.out))
      go_ret
      exact ⟨ret_bool (by simp), HB0.out.trans (HB2.out.mono HB0.out.size)⟩
    | false =>
      go_enter Try.func49, Try.ntmps49
      go_wp2_with (first
        | (go_at_call 48; have _g := HB1; refine Calls.mono (HC2.out _ HB1.out) ?_; rintro e w2 ⟨rfl, b2⟩; have HB2 := hd (HB1.out.trans (b2.mono HB1.out.size)); clear b2)
        | (go_at_call 48; rw [HW.out]; refine Calls.mono (HC1.out _ (Below.refl _ _)) ?_; rintro e w1 ⟨rfl, b1⟩; have HB1 := hd b1; clear b1 x0 x1 x2 x3 x4 y0 y1 y2 y3 y4; obtain ⟨x0, x1, x2, x3, x4, y0, y1, y2, y3, y4⟩ := HK.out _ HB1.out))
      go_ret
      exact ⟨ret_bool (by simp), HB0.out.trans (HB1.out.mono HB0.out.size)⟩
  · have g1 : (si == ti) = false := by simpa using hi
    clear hi
    go_enter Try.func49, Try.ntmps49
    go_wp2_with (first
      | (go_at_call 48; have _g := HB1; refine Calls.mono (HC2.out _ HB1.out) ?_; rintro e w2 ⟨rfl, b2⟩; have HB2 := hd (HB1.out.trans (b2.mono HB1.out.size)); clear b2)
      | (go_at_call 48; rw [HW.out]; refine Calls.mono (HC1.out _ (Below.refl _ _)) ?_; rintro e w1 ⟨rfl, b1⟩; have HB1 := hd b1; clear b1 x0 x1 x2 x3 x4 y0 y1 y2 y3 y4; obtain ⟨x0, x1, x2, x3, x4, y0, y1, y2, y3, y4⟩ := HK.out _ HB1.out))
    rw [HW.out]
    go_ret
    exact ⟨ret_bool (by simp [g1]), HB0.out⟩
set_option maxRecDepth 4000 in
/-- Check, in any later world. -/
theorem check_at {d : Nat} {w W : World} {u v : Value} {n : NT} {p : List Int × Int} (hb : Below w.heap.size w W) (hn : NodeAt d w w.heap.size u n) (hp : PtAt w v p) : Calls Try.prog 41 #[u, v] W (Still (.int .i64 (chkP n p)) W) := by
  obtain ⟨A, m, c, rfl, h1, h2, _, h3⟩ := hp.later hb
  exact ptcheck_any d W u n A p m c h1 h2 (hn.later hb) h3
set_option maxRecDepth 4000 in
theorem rcheck_at {d : Nat} {w W : World} {u v : Value} {n : NT} {p : List Int × Int} (hb : Below w.heap.size w W) (hn : NodeAt d w w.heap.size u n) (hp : PtAt w v p) : Calls Try.prog 29 #[u, v] W (Still (.int .i64 (chkP n p)) W) := by
  obtain ⟨A, m, c, rfl, h1, h2, _, h3⟩ := hp.later hb
  exact rpcheck_any d W u n A p m c h1 h2 (hn.later hb) h3
end Go.Proofs.Ytmglnjmnabjjgaa

namespace Go.Proofs.Ytmglnjmnabjjgaa
open Go.RowKit
set_option maxRecDepth 4000 in
theorem row_node : ∃ d, Try.prog.underlying 26 = some d ∧ d.isRow = true ∧ (Try.prog.info? 26).map (·.size) = some 4 := ⟨.struct (Try.prog.fieldsOf 26), by kernel_rfl, rfl, by kernel_rfl⟩
set_option maxRecDepth 4000 in
theorem sz_int : (Try.prog.info? 3).map (·.size) = some 1 := by kernel_rfl
end Go.Proofs.Ytmglnjmnabjjgaa

namespace Go.Proofs.Ytmglnjmnabjjgaa
open Go.RowKit
section
variable {t : TypeId} {w w' : World} {g : Nat} {r r' : Array Value}
end
set_option maxRecDepth 4000 in
theorem rowT_node : RowT 26 4 := row_node
/-- Where a node's parts lie, and a selection's. -/
structure NC where
  lf : Bool
  P : Option Addr
  np : Nat
  pc : Nat
  X : Option Addr
  nt : Nat
  tc : Nat
  K : Option Addr
  nk : Nat
  kc : Nat
def NC.row (c : NC) : Array Value := #[.bool c.lf, .slice c.P c.np c.pc, .slice c.X c.nt c.tc, .slice c.K c.nk c.kc]
/-- c holds the tree n; c holds the selection s. -/
def HasN (w : World) (c : NC) (n : NT) : Prop := ∃ d, NodeAt d w w.heap.size (.agg c.row) n
set_option maxRecDepth 4000 in
theorem HasN.later {w w' : World} {c : NC} {n : NT} (h : HasN w c n) (hb : Below w.heap.size w w') : HasN w' c n := by
  obtain ⟨d, h⟩ := h
  exact ⟨d, h.later hb⟩
set_option maxRecDepth 4000 in
theorem has_node {d : Nat} {w : World} {v : Value} {n : NT} (h : NodeAt d w w.heap.size v n) : ∃ c : NC, v = .agg c.row ∧ HasN w c n := by
  cases d with
  | zero => exact h.elim
  | succ d =>
    obtain ⟨PA, pc, TA, tc, KA, kc, rfl, hp, ht, hf, hks⟩ := h
    exact ⟨⟨n.lf, PA, n.ps.length, pc, TA, n.tx.length, tc, KA, n.ks.length, kc⟩, rfl, d + 1, PA, pc, TA, tc, KA, kc, rfl, hp, ht, hf, hks⟩
end Go.Proofs.Ytmglnjmnabjjgaa

namespace Go.Proofs.Ytmglnjmnabjjgaa
open Go.RowKit
set_option maxRecDepth 4000 in
theorem lrowT_pt : RowT 30 2 := ⟨.struct (Try.prog.fieldsOf 30), by kernel_rfl, rfl, by kernel_rfl⟩
set_option maxRecDepth 4000 in
theorem RkA.with_ {w : World} {c : RC} {r : RefP} (h : RkA w c r) (id : Int) : RkA w { c with id := id, live := true } (withR id r) := { h with hid := rfl, hlv := rfl }

end Go.Proofs.Ytmglnjmnabjjgaa

namespace Go.Proofs.Ytmglnjmnabjjgaa
open Go.ChangeShapes Go.WideShapes Go.RowKit Go.Deep
section
variable {H : Type} {enc : TypeId × Value → H} {W : World} {base : Nat} {held : Bool}
set_option maxRecDepth 4000 in
/-- A ref that came in. -/
theorem open_ref {r : Reach} {b0 : Nat} {v : Value} {d : DataW H} {p : List MemPlace} (hv : Value.okWide Try.prog W r b0 34 v) (h : DataW.Trod enc Try.prog W base (fun _ => true) held 34 v d p) : ∃ (c : RC) (a : RefP), v = .agg c.row ∧ RkA W c a := by
  obtain ⟨fuel, hf⟩ := h
  obtain ⟨c, a, hcs, hok⟩ := ref_full hf
  obtain ⟨cs, rfl, hcz⟩ := okWide_struct fields_ref hv
  have e : cs = c.row := by
    apply Array.toList_inj.1
    simpa [Value.cells] using hcs
  subst e
  exact ⟨c, a, rfl, hok⟩
end

end Go.Proofs.Ytmglnjmnabjjgaa

namespace Go.Proofs.Ytmglnjmnabjjgaa
open Go.RowKit
set_option maxRecDepth 4000 in
theorem GkA.zero (w : World) : GkA w ⟨none, 0, 0, 0, none, 0, 0, 0⟩ ([], 0) ([], 0) := ⟨PathC.nil _, rfl, PathC.nil _, rfl, Nat.zero_le _, Nat.zero_le _⟩
end Go.Proofs.Ytmglnjmnabjjgaa

namespace Go.Proofs.Ytmglnjmnabjjgaa
open Go.RowKit

section
variable {P : Program} {ops : Array Oper} {Q : Exit → Act → World → Prop} {S : World → Prop} {z : Nat → Bool}
set_option maxRecDepth 4000 in
/-- Just two may come up. -/
theorem Y_two {i j : Nat} {o p : Oper} {n : Nat} {listed : Array Bool} {a : Act} {w : World} (hr : Region.ready .any ops listed = [i, j]) (hi : ops[i]? = some o) (hj : ops[j]? = some p)
    (h : ∀ K : Act → World → Prop, (∀ a' w', (z i = false → S w') → wpAnyY P ops Q S z n (listed.setIfInBounds i true) a' w' → K a' w') → if Region.wanted o (yielded ops a.tmps) = true then Oper.wp P o a w K Q else False)
    (h' : ∀ K : Act → World → Prop, (∀ a' w', (z j = false → S w') → wpAnyY P ops Q S z n (listed.setIfInBounds j true) a' w' → K a' w') → if Region.wanted p (yielded ops a.tmps) = true then Oper.wp P p a w K Q else False) : wpAnyY P ops Q S z (n + 1) listed a w := by
  refine ⟨fun e => absurd (e.symm.trans hr) (by simp), fun k hk => ?_⟩
  rw [hr] at hk
  rcases List.mem_cons.1 hk with rfl | hk
  · have h1 := h (fun a' w' => (z k = false → S w') ∧ wpAnyY P ops Q S z n (listed.setIfInBounds k true) a' w') (fun a' w' h1 h2 => ⟨h1, h2⟩)
    unfold wpOp
    simp only [hi]
    split
    · rename_i hw
      rw [if_pos hw] at h1
      exact .inl h1
    · rename_i hw
      rw [if_neg hw] at h1
      exact h1.elim
  · rw [List.mem_singleton] at hk
    subst hk
    have h1 := h' (fun a' w' => (z k = false → S w') ∧ wpAnyY P ops Q S z n (listed.setIfInBounds k true) a' w') (fun a' w' h1 h2 => ⟨h1, h2⟩)
    unfold wpOp
    simp only [hj]
    split
    · rename_i hw
      rw [if_pos hw] at h1
      exact .inl h1
    · rename_i hw
      rw [if_neg hw] at h1
      exact h1.elim
end

end Go.Proofs.Ytmglnjmnabjjgaa

namespace Go.Proofs.Ytmglnjmnabjjgaa
open Go.RowKit Go.Maps
set_option maxRecDepth 4000 in
theorem KM.lt {w : World} {b n : Nat} {D : DataW Value} (h : KM w b n D) : b < w.heap.size := World.ownsMap.lt h
set_option maxRecDepth 4000 in
theorem KM.off {w w' : World} {b g n : Nat} {D : DataW Value} (h : KM w b n D) (ho : Off g w w') (hne : b ≠ g) : KM w' b n D := World.ownsMap.kept (row := some g) h ⟨ho.os, ho.tape, ho.output, ho.size, fun i hi hg => ho.block i hi (fun e => hg (by rw [e]))⟩ (by simpa using hne)
end Go.Proofs.Ytmglnjmnabjjgaa

namespace Go.Proofs.Ytmglnjmnabjjgaa
open Go.RowKit

theorem lvars2 (w : World) (t u : TypeId) (r s : Array Value) : ∃ W0, (w.alloc (.cells r t)).alloc (.cells s u) = W0 ∧ Below w.heap.size w W0 ∧ VarR t W0 w.heap.size r ∧ VarR u W0 (w.heap.size + 1) s := by
  have h1 := (VarR.new w t r).alloc (.cells s u)
  have h2 := VarR.new (w.alloc (.cells r t)) u s
  have e1 : (w.alloc (.cells r t)).heap.size = w.heap.size + 1 := by simp
  rw [e1] at h2
  exact ⟨_, rfl, ((Below.refl _ _).alloc (Nat.le_refl _) _).alloc (by rw [e1]; omega) _, h1, h2⟩
set_option maxRecDepth 4000 in
theorem VarR.node {W : World} {g : Nat} {c : NC} (h : VarR 26 W g c.row) : W.cell? ⟨g, 0, none⟩ = some (.bool c.lf) ∧ W.cell? ⟨g, 1, none⟩ = some (.slice c.P c.np c.pc) ∧ W.cell? ⟨g, 2, none⟩ = some (.slice c.X c.nt c.tc) ∧ W.cell? ⟨g, 3, none⟩ = some (.slice c.K c.nk c.kc) := h.four
set_option maxRecDepth 4000 in
theorem rptcheck {w : World} {c : NC} {v : Value} {n : NT} {p : List Int × Int} {E : Int} (hn : HasN w c n) (hp : PtAt w v p) (hE : chkP n p = E) : Calls Try.prog 29 #[.agg c.row, v] w (Still (.int .i64 E) w) := by
  obtain ⟨d, hn⟩ := hn
  exact hE ▸ rcheck_at (Below.refl _ _) hn hp
/-- What a kind asks. -/
def ask1 (aff : Int) (E1 E2 : Bool) (G : Int) : Int := if aff ≠ 0 ∨ E1 = false ∨ E2 = false then 1 else G
def ask2 (aff : Int) (np : Nat) (E2 : Bool) (G : Int) : Int := if aff < 0 ∨ 2 < aff ∨ np ≠ 0 ∨ E2 = false then 1 else G
def ask3 (aff : Int) (np : Nat) (E1 : Bool) (G H : Int) : Int := if aff < 0 ∨ 4 < aff ∨ np ≠ 0 ∨ E1 = false then 1 else if G ≠ 0 then G else H

set_option maxRecDepth 100000 in
set_option maxHeartbeats 8000000 in
theorem rchk_0 {w : World} {c : NC} {d : RC} {n : NT} {r : RefP} {E : Int} (hn : HasN w c n) (hr : RkA w d r) (hf : fewR r = true) (k1 : (d.kind == 1) = false) (k2 : (d.kind == 2) = false) (k3 : (d.kind == 3) = false) (hE : chkR n r = E) : Calls Try.prog 13 #[.agg c.row, .agg d.row] w (Still (.int .i64 E) w) := by
  have e : chkR n r = 1 := by
    simp only [beq_eq_false_iff_ne] at k1 k2 k3
    rw [chkR, hr.hk, if_neg k1, if_neg k2, if_neg k3]
  subst hE
  obtain ⟨W0, hW, hb0, v1, v2⟩ := lvars2 w 26 34 c.row d.row
  have HK1 := hd (fun W (h : Below W0.heap.size W0 W) => (v1.keep h).node)
  have HK2 := hd (fun W (h : Below W0.heap.size W0 W) => (v2.keep h).eleven)
  have HA := hd (fun W (h : Below W0.heap.size W0 W) => (hr.later hb0).later h)
  have HN := hd (fun W (h : Below W0.heap.size W0 W) => (hn.later hb0).later h)
  have HF := hd hf
  have HW := hd hW
  have HB0 := hd hb0
  have HBc := hd (Below.refl W0.heap.size W0)
  have HPN := hd hr.hp.len
  obtain ⟨E1, hE1⟩ : ∃ E1, zP r.q = E1 := ⟨_, rfl⟩
  obtain ⟨E2, hE2⟩ : ∃ E2, (zP r.a && zP r.f) = E2 := ⟨_, rfl⟩
  have H1 := hd (show samP r.q ([], 0) = E1 from hE1)
  have H2 := hd (show (samP r.a ([], 0) && samP r.f ([], 0)) = E2 from hE2)
  rw [e]
  clear hE1 hE2 e
  clear hW hb0 v1 v2 hr hn hf
  obtain ⟨_, u4, ⟨u5, u6⟩, _⟩ := HK2.out _ HBc.out
  go_enter Try.func13, Try.ntmps13
  go_upto_region 1 with fail
  rw [HW.out]
  go_wp2_with (first
    | (go_at_call 26; have _g := H1; refine Calls.mono (rpt_same ((HA.out _ HBc.out).pt HF.out) (PtAt.zero _) H1.out) ?_; clear H1; rintro e w9 ⟨rfl, b9⟩; have HBc := hd (step_b HBc.out b9); clear b9 u4 u5 u6; obtain ⟨_, _, _, u7, u8, u9, u10⟩ := HK2.out _ HBc.out)
    | (go_at_call 27; have _g := H2; refine Calls.mono (rrange_at (c := d.rng) (d := ⟨none, 0, 0, 0, none, 0, 0, 0⟩) ((HA.out _ HBc.out).rng HF.out) (GkA.zero _) H2.out) ?_; clear H2; rintro e w9 ⟨rfl, b9⟩; have HBc := hd (step_b HBc.out b9); clear b9 u7 u8 u9 u10; obtain ⟨⟨_, x1, x2, _⟩, x4, ⟨x5, x6⟩, x7, x8, x9, x10⟩ := HK2.out _ HBc.out; obtain ⟨n0, n1, n2, n3⟩ := HK1.out _ HBc.out)
    | (go_at_call 28; obtain ⟨D, hD⟩ := HN.out _ HBc.out; refine Calls.mono (rtget_any D _ _ _ _ _ _ _ (HA.out _ HBc.out).hp.len (by have h1 := fewR_len HF.out; have h2 := HPN.out; omega) hD (HA.out _ HBc.out).hp.il) ?_; clear hD; rintro e w9 ⟨v, D9, rfl, hv, b9⟩; rw [HG.out]; obtain ⟨c9, hc9, _⟩ := has_node (hv.at_ (B := w9.heap.size) (fun _ h => h.2)); unfold NC.row at hc9; subst hc9; clear hv; have HBc := hd (step_b HBc.out b9); clear b9)
    | (go_at_call 29; have _g := HP1; refine Calls.mono (rptcheck (HN.out _ HBc.out) ((HA.out _ HBc.out).pt HF.out) HP1.out) ?_; clear HP1; rintro e w9 ⟨rfl, b9⟩; have HBc := hd (step_b HBc.out b9); clear b9)
    | (go_at_call 29; have _g := HP2; refine Calls.mono (rptcheck (HN.out _ HBc.out) ((HA.out _ HBc.out).rng HF.out).pa HP2.out) ?_; clear HP2; rintro e w9 ⟨rfl, b9⟩; have HBc := hd (step_b HBc.out b9); clear b9 n0 n1 n2 n3 x1 x2 x4 x5 x6 x7 x8 x9 x10; obtain ⟨n0, n1, n2, n3⟩ := HK1.out _ HBc.out; obtain ⟨_, _, _, _, _, x9, x10⟩ := HK2.out _ HBc.out)
    | (go_at_call 29; have _g := HP3; refine Calls.mono (rptcheck (HN.out _ HBc.out) ((HA.out _ HBc.out).rng HF.out).pf HP3.out) ?_; clear HP3; rintro e w9 ⟨rfl, b9⟩; have HBc := hd (step_b HBc.out b9); clear b9))
  go_ret
  exact ⟨rfl, HB0.out.trans (HBc.out.mono HB0.out.size)⟩
set_option maxRecDepth 100000 in
set_option maxHeartbeats 8000000 in
theorem rchk_1 {w : World} {c : NC} {d : RC} {n : NT} {r : RefP} {E : Int} (hn : HasN w c n) (hr : RkA w d r) (hf : fewR r = true) (k1 : (d.kind == 1) = true) (hE : chkR n r = E) : Calls Try.prog 13 #[.agg c.row, .agg d.row] w (Still (.int .i64 E) w) := by
  subst hE
  obtain ⟨W0, hW, hb0, v1, v2⟩ := lvars2 w 26 34 c.row d.row
  have HK1 := hd (fun W (h : Below W0.heap.size W0 W) => (v1.keep h).node)
  have HK2 := hd (fun W (h : Below W0.heap.size W0 W) => (v2.keep h).eleven)
  have HA := hd (fun W (h : Below W0.heap.size W0 W) => (hr.later hb0).later h)
  have HN := hd (fun W (h : Below W0.heap.size W0 W) => (hn.later hb0).later h)
  have HF := hd hf
  have HW := hd hW
  have HB0 := hd hb0
  have HBc := hd (Below.refl W0.heap.size W0)
  have HPN := hd hr.hp.len
  obtain ⟨E1, hE1⟩ : ∃ E1, zP r.q = E1 := ⟨_, rfl⟩
  obtain ⟨E2, hE2⟩ : ∃ E2, (zP r.a && zP r.f) = E2 := ⟨_, rfl⟩
  have H1 := hd (show samP r.q ([], 0) = E1 from hE1)
  have H2 := hd (show (samP r.a ([], 0) && samP r.f ([], 0)) = E2 from hE2)
  have e : chkR n r = ask1 d.aff E1 E2 (getE n r.p).2 := by
    simp only [beq_iff_eq] at k1
    rw [chkR, hr.hk, if_pos k1, hr.ha, hE1, hE2, ask1]
  obtain ⟨G, hG⟩ : ∃ G, (getE n r.p).2 = G := ⟨_, rfl⟩
  rw [e, hG]
  have HG := hd hG
  clear hE1 hE2 e hG
  clear hW hb0 v1 v2 hr hn hf
  obtain ⟨_, u4, ⟨u5, u6⟩, _⟩ := HK2.out _ HBc.out
  go_enter Try.func13, Try.ntmps13
  go_upto_region 1 with fail
  rw [HW.out]
  go_wp2_with (first
    | (go_at_call 26; have _g := H1; refine Calls.mono (rpt_same ((HA.out _ HBc.out).pt HF.out) (PtAt.zero _) H1.out) ?_; clear H1; rintro e w9 ⟨rfl, b9⟩; have HBc := hd (step_b HBc.out b9); clear b9 u4 u5 u6; obtain ⟨_, _, _, u7, u8, u9, u10⟩ := HK2.out _ HBc.out)
    | (go_at_call 27; have _g := H2; refine Calls.mono (rrange_at (c := d.rng) (d := ⟨none, 0, 0, 0, none, 0, 0, 0⟩) ((HA.out _ HBc.out).rng HF.out) (GkA.zero _) H2.out) ?_; clear H2; rintro e w9 ⟨rfl, b9⟩; have HBc := hd (step_b HBc.out b9); clear b9 u7 u8 u9 u10; obtain ⟨⟨_, x1, x2, _⟩, x4, ⟨x5, x6⟩, x7, x8, x9, x10⟩ := HK2.out _ HBc.out; obtain ⟨n0, n1, n2, n3⟩ := HK1.out _ HBc.out)
    | (go_at_call 28; obtain ⟨D, hD⟩ := HN.out _ HBc.out; refine Calls.mono (rtget_any D _ _ _ _ _ _ _ (HA.out _ HBc.out).hp.len (by have h1 := fewR_len HF.out; have h2 := HPN.out; omega) hD (HA.out _ HBc.out).hp.il) ?_; clear hD; rintro e w9 ⟨v, D9, rfl, hv, b9⟩; rw [HG.out]; obtain ⟨c9, hc9, _⟩ := has_node (hv.at_ (B := w9.heap.size) (fun _ h => h.2)); unfold NC.row at hc9; subst hc9; clear hv; have HBc := hd (step_b HBc.out b9); clear b9)
    | (go_at_call 29; have _g := HP1; refine Calls.mono (rptcheck (HN.out _ HBc.out) ((HA.out _ HBc.out).pt HF.out) HP1.out) ?_; clear HP1; rintro e w9 ⟨rfl, b9⟩; have HBc := hd (step_b HBc.out b9); clear b9)
    | (go_at_call 29; have _g := HP2; refine Calls.mono (rptcheck (HN.out _ HBc.out) ((HA.out _ HBc.out).rng HF.out).pa HP2.out) ?_; clear HP2; rintro e w9 ⟨rfl, b9⟩; have HBc := hd (step_b HBc.out b9); clear b9 n0 n1 n2 n3 x1 x2 x4 x5 x6 x7 x8 x9 x10; obtain ⟨n0, n1, n2, n3⟩ := HK1.out _ HBc.out; obtain ⟨_, _, _, _, _, x9, x10⟩ := HK2.out _ HBc.out)
    | (go_at_call 29; have _g := HP3; refine Calls.mono (rptcheck (HN.out _ HBc.out) ((HA.out _ HBc.out).rng HF.out).pf HP3.out) ?_; clear HP3; rintro e w9 ⟨rfl, b9⟩; have HBc := hd (step_b HBc.out b9); clear b9))
  all_goals (go_ret; refine ⟨ret_int ?_, ?_⟩)
  all_goals first
    | exact HB0.out.trans (HBc.out.mono HB0.out.size)
    | exact (HB0.out.trans (HBc.out.mono HB0.out.size)).alloc (HB0.out.trans (HBc.out.mono HB0.out.size)).size _
    | (unfold ask1; simp_all; done)
    | (unfold ask1; simp_all; done)
    | (unfold ask1; simp_all; intros; simp_all; omega)
    | (unfold ask1; simp_all; omega)
set_option maxRecDepth 100000 in
set_option maxHeartbeats 8000000 in
theorem rchk_2 {w : World} {c : NC} {d : RC} {n : NT} {r : RefP} {E : Int} (hn : HasN w c n) (hr : RkA w d r) (hf : fewR r = true) (k1 : (d.kind == 1) = false) (k2 : (d.kind == 2) = true) (hE : chkR n r = E) : Calls Try.prog 13 #[.agg c.row, .agg d.row] w (Still (.int .i64 E) w) := by
  subst hE
  obtain ⟨W0, hW, hb0, v1, v2⟩ := lvars2 w 26 34 c.row d.row
  have HK1 := hd (fun W (h : Below W0.heap.size W0 W) => (v1.keep h).node)
  have HK2 := hd (fun W (h : Below W0.heap.size W0 W) => (v2.keep h).eleven)
  have HA := hd (fun W (h : Below W0.heap.size W0 W) => (hr.later hb0).later h)
  have HN := hd (fun W (h : Below W0.heap.size W0 W) => (hn.later hb0).later h)
  have HF := hd hf
  have HW := hd hW
  have HB0 := hd hb0
  have HBc := hd (Below.refl W0.heap.size W0)
  have HPN := hd hr.hp.len
  obtain ⟨E1, hE1⟩ : ∃ E1, zP r.q = E1 := ⟨_, rfl⟩
  obtain ⟨E2, hE2⟩ : ∃ E2, (zP r.a && zP r.f) = E2 := ⟨_, rfl⟩
  have H1 := hd (show samP r.q ([], 0) = E1 from hE1)
  have H2 := hd (show (samP r.a ([], 0) && samP r.f ([], 0)) = E2 from hE2)
  have e : chkR n r = ask2 d.aff d.np E2 (chkP n r.q) := by
    simp only [beq_iff_eq, beq_eq_false_iff_ne] at k1 k2
    rw [chkR, hr.hk, if_neg k1, if_pos k2, hr.ha, hr.hp.len, hE2, ask2]
  obtain ⟨G, hG⟩ : ∃ G, chkP n r.q = G := ⟨_, rfl⟩
  rw [e, hG]
  have HP1 := hd hG
  have hm := hr.hp.max
  clear hE1 hE2 e hG
  clear hW hb0 v1 v2 hr hn hf
  obtain ⟨_, u4, ⟨u5, u6⟩, _⟩ := HK2.out _ HBc.out
  go_enter Try.func13, Try.ntmps13
  go_upto_region 1 with fail
  rw [HW.out]
  go_wp2_with (first
    | (go_at_call 26; have _g := H1; refine Calls.mono (rpt_same ((HA.out _ HBc.out).pt HF.out) (PtAt.zero _) H1.out) ?_; clear H1; rintro e w9 ⟨rfl, b9⟩; have HBc := hd (step_b HBc.out b9); clear b9 u4 u5 u6; obtain ⟨_, _, _, u7, u8, u9, u10⟩ := HK2.out _ HBc.out)
    | (go_at_call 27; have _g := H2; refine Calls.mono (rrange_at (c := d.rng) (d := ⟨none, 0, 0, 0, none, 0, 0, 0⟩) ((HA.out _ HBc.out).rng HF.out) (GkA.zero _) H2.out) ?_; clear H2; rintro e w9 ⟨rfl, b9⟩; have HBc := hd (step_b HBc.out b9); clear b9 u7 u8 u9 u10; obtain ⟨⟨_, x1, x2, _⟩, x4, ⟨x5, x6⟩, x7, x8, x9, x10⟩ := HK2.out _ HBc.out; obtain ⟨n0, n1, n2, n3⟩ := HK1.out _ HBc.out)
    | (go_at_call 28; obtain ⟨D, hD⟩ := HN.out _ HBc.out; refine Calls.mono (rtget_any D _ _ _ _ _ _ _ (HA.out _ HBc.out).hp.len (by have h1 := fewR_len HF.out; have h2 := HPN.out; omega) hD (HA.out _ HBc.out).hp.il) ?_; clear hD; rintro e w9 ⟨v, D9, rfl, hv, b9⟩; rw [HG.out]; obtain ⟨c9, hc9, _⟩ := has_node (hv.at_ (B := w9.heap.size) (fun _ h => h.2)); unfold NC.row at hc9; subst hc9; clear hv; have HBc := hd (step_b HBc.out b9); clear b9)
    | (go_at_call 29; have _g := HP1; refine Calls.mono (rptcheck (HN.out _ HBc.out) ((HA.out _ HBc.out).pt HF.out) HP1.out) ?_; clear HP1; rintro e w9 ⟨rfl, b9⟩; have HBc := hd (step_b HBc.out b9); clear b9)
    | (go_at_call 29; have _g := HP2; refine Calls.mono (rptcheck (HN.out _ HBc.out) ((HA.out _ HBc.out).rng HF.out).pa HP2.out) ?_; clear HP2; rintro e w9 ⟨rfl, b9⟩; have HBc := hd (step_b HBc.out b9); clear b9 n0 n1 n2 n3 x1 x2 x4 x5 x6 x7 x8 x9 x10; obtain ⟨n0, n1, n2, n3⟩ := HK1.out _ HBc.out; obtain ⟨_, _, _, _, _, x9, x10⟩ := HK2.out _ HBc.out)
    | (go_at_call 29; have _g := HP3; refine Calls.mono (rptcheck (HN.out _ HBc.out) ((HA.out _ HBc.out).rng HF.out).pf HP3.out) ?_; clear HP3; rintro e w9 ⟨rfl, b9⟩; have HBc := hd (step_b HBc.out b9); clear b9))
  all_goals (go_ret; refine ⟨ret_int ?_, ?_⟩)
  all_goals first
    | exact HB0.out.trans (HBc.out.mono HB0.out.size)
    | exact (HB0.out.trans (HBc.out.mono HB0.out.size)).alloc (HB0.out.trans (HBc.out.mono HB0.out.size)).size _
    | (unfold ask2; simp_all; done)
    | (unfold ask2; simp_all; done)
    | (unfold ask2; simp_all; intros; simp_all; omega)
    | (unfold ask2; simp_all; omega)
set_option maxRecDepth 100000 in
set_option maxHeartbeats 8000000 in
theorem rchk_3 {w : World} {c : NC} {d : RC} {n : NT} {r : RefP} {E : Int} (hn : HasN w c n) (hr : RkA w d r) (hf : fewR r = true) (k1 : (d.kind == 1) = false) (k2 : (d.kind == 2) = false) (k3 : (d.kind == 3) = true) (hE : chkR n r = E) : Calls Try.prog 13 #[.agg c.row, .agg d.row] w (Still (.int .i64 E) w) := by
  subst hE
  obtain ⟨W0, hW, hb0, v1, v2⟩ := lvars2 w 26 34 c.row d.row
  have HK1 := hd (fun W (h : Below W0.heap.size W0 W) => (v1.keep h).node)
  have HK2 := hd (fun W (h : Below W0.heap.size W0 W) => (v2.keep h).eleven)
  have HA := hd (fun W (h : Below W0.heap.size W0 W) => (hr.later hb0).later h)
  have HN := hd (fun W (h : Below W0.heap.size W0 W) => (hn.later hb0).later h)
  have HF := hd hf
  have HW := hd hW
  have HB0 := hd hb0
  have HBc := hd (Below.refl W0.heap.size W0)
  have HPN := hd hr.hp.len
  obtain ⟨E1, hE1⟩ : ∃ E1, zP r.q = E1 := ⟨_, rfl⟩
  obtain ⟨E2, hE2⟩ : ∃ E2, (zP r.a && zP r.f) = E2 := ⟨_, rfl⟩
  have H1 := hd (show samP r.q ([], 0) = E1 from hE1)
  have H2 := hd (show (samP r.a ([], 0) && samP r.f ([], 0)) = E2 from hE2)
  have e : chkR n r = ask3 d.aff d.np E1 (chkP n r.a) (chkP n r.f) := by
    simp only [beq_iff_eq, beq_eq_false_iff_ne] at k1 k2 k3
    rw [chkR, hr.hk, if_neg k1, if_neg k2, if_pos k3, hr.ha, hr.hp.len, hE1, ask3]
  obtain ⟨G, hG⟩ : ∃ G, chkP n r.a = G := ⟨_, rfl⟩
  obtain ⟨H, hH⟩ : ∃ H, chkP n r.f = H := ⟨_, rfl⟩
  rw [e, hG, hH]
  have HP2 := hd hG
  have HP3 := hd hH
  have hm := hr.hp.max
  clear hE1 hE2 e hG hH
  clear hW hb0 v1 v2 hr hn hf
  obtain ⟨_, u4, ⟨u5, u6⟩, _⟩ := HK2.out _ HBc.out
  go_enter Try.func13, Try.ntmps13
  go_upto_region 1 with fail
  rw [HW.out]
  go_wp2_with (first
    | (go_at_call 26; have _g := H1; refine Calls.mono (rpt_same ((HA.out _ HBc.out).pt HF.out) (PtAt.zero _) H1.out) ?_; clear H1; rintro e w9 ⟨rfl, b9⟩; have HBc := hd (step_b HBc.out b9); clear b9 u4 u5 u6; obtain ⟨_, _, _, u7, u8, u9, u10⟩ := HK2.out _ HBc.out)
    | (go_at_call 27; have _g := H2; refine Calls.mono (rrange_at (c := d.rng) (d := ⟨none, 0, 0, 0, none, 0, 0, 0⟩) ((HA.out _ HBc.out).rng HF.out) (GkA.zero _) H2.out) ?_; clear H2; rintro e w9 ⟨rfl, b9⟩; have HBc := hd (step_b HBc.out b9); clear b9 u7 u8 u9 u10; obtain ⟨⟨_, x1, x2, _⟩, x4, ⟨x5, x6⟩, x7, x8, x9, x10⟩ := HK2.out _ HBc.out; obtain ⟨n0, n1, n2, n3⟩ := HK1.out _ HBc.out)
    | (go_at_call 28; obtain ⟨D, hD⟩ := HN.out _ HBc.out; refine Calls.mono (rtget_any D _ _ _ _ _ _ _ (HA.out _ HBc.out).hp.len (by have h1 := fewR_len HF.out; have h2 := HPN.out; omega) hD (HA.out _ HBc.out).hp.il) ?_; clear hD; rintro e w9 ⟨v, D9, rfl, hv, b9⟩; rw [HG.out]; obtain ⟨c9, hc9, _⟩ := has_node (hv.at_ (B := w9.heap.size) (fun _ h => h.2)); unfold NC.row at hc9; subst hc9; clear hv; have HBc := hd (step_b HBc.out b9); clear b9)
    | (go_at_call 29; have _g := HP1; refine Calls.mono (rptcheck (HN.out _ HBc.out) ((HA.out _ HBc.out).pt HF.out) HP1.out) ?_; clear HP1; rintro e w9 ⟨rfl, b9⟩; have HBc := hd (step_b HBc.out b9); clear b9)
    | (go_at_call 29; have _g := HP2; refine Calls.mono (rptcheck (HN.out _ HBc.out) ((HA.out _ HBc.out).rng HF.out).pa HP2.out) ?_; clear HP2; rintro e w9 ⟨rfl, b9⟩; have HBc := hd (step_b HBc.out b9); clear b9 n0 n1 n2 n3 x1 x2 x4 x5 x6 x7 x8 x9 x10; obtain ⟨n0, n1, n2, n3⟩ := HK1.out _ HBc.out; obtain ⟨_, _, _, _, _, x9, x10⟩ := HK2.out _ HBc.out)
    | (go_at_call 29; have _g := HP3; refine Calls.mono (rptcheck (HN.out _ HBc.out) ((HA.out _ HBc.out).rng HF.out).pf HP3.out) ?_; clear HP3; rintro e w9 ⟨rfl, b9⟩; have HBc := hd (step_b HBc.out b9); clear b9))
  all_goals (go_ret; refine ⟨ret_int ?_, ?_⟩)
  all_goals first
    | exact HB0.out.trans (HBc.out.mono HB0.out.size)
    | exact (HB0.out.trans (HBc.out.mono HB0.out.size)).alloc (HB0.out.trans (HBc.out.mono HB0.out.size)).size _
    | (unfold ask3; simp_all; done)
    | (unfold ask3; simp_all; done)
    | (unfold ask3; simp_all; intros; simp_all; omega)
    | (unfold ask3; simp_all; omega)
set_option maxRecDepth 4000 in
theorem rchk_at {w : World} {c : NC} {d : RC} {n : NT} {r : RefP} {E : Int} (hn : HasN w c n) (hr : RkA w d r) (hf : fewR r = true) (hE : chkR n r = E) : Calls Try.prog 13 #[.agg c.row, .agg d.row] w (Still (.int .i64 E) w) := by
  cases k1 : (d.kind == 1)
  · cases k2 : (d.kind == 2)
    · cases k3 : (d.kind == 3)
      · exact rchk_0 hn hr hf k1 k2 k3 hE
      · exact rchk_3 hn hr hf k1 k2 k3 hE
    · exact rchk_2 hn hr hf k1 k2 hE
  · exact rchk_1 hn hr hf k1 hE

end Go.Proofs.Ytmglnjmnabjjgaa

namespace Go.Proofs.Ytmglnjmnabjjgaa
open Go.RowKit

theorem RkA.ptT {w : World} {c : RC} {r : RefP} (h : RkA w c r) (ht : tinyR r) : PtAt w (.agg #[.slice c.Q c.nq c.cq, .int .i64 c.qo]) r.q := h.hq.pt h.hqo (by have := h.hq.len; have := ht.2.1; omega)
set_option maxRecDepth 4000 in
theorem RkA.paT {w : World} {c : RC} {r : RefP} (h : RkA w c r) (ht : tinyR r) : PtAt w (.agg #[.slice c.A c.na c.ca, .int .i64 c.ao]) r.a := h.haa.pt h.hao (by have := h.haa.len; have := ht.2.2.1; omega)
set_option maxRecDepth 4000 in
theorem RkA.pfT {w : World} {c : RC} {r : RefP} (h : RkA w c r) (ht : tinyR r) : PtAt w (.agg #[.slice c.F c.nf c.cf, .int .i64 c.fo]) r.f := h.hf.pt h.hfo (by have := h.hf.len; have := ht.2.2.2; omega)
set_option maxRecDepth 4000 in
theorem hpt_same {w : World} {u v : Value} {p q : List Int × Int} {E : Bool} (hp : PtAt w u p) (hq : PtAt w v q) (hE : samP p q = E) : Calls Try.prog 48 #[u, v] w (Still (.bool E) w) := hE ▸ same_at (Below.refl _ _) hp hq
set_option maxRecDepth 4000 in
theorem hsel_same {w : World} {d : RC} {r : RefP} {E : Bool} (h : RkA w d r) (ht : tinyR r) (hE : (zP r.a && zP r.f) = E) : Calls Try.prog 49 #[.agg #[.bool false, .slice d.A d.na d.ca, .int .i64 d.ao, .slice d.F d.nf d.cf, .int .i64 d.fo], .agg #[.bool false, .slice none 0 0, .int .i64 0, .slice none 0 0, .int .i64 0]] w (Still (.bool E) w) := by
  have h2 := samesel_any w ⟨false, r.a, r.f⟩ ⟨false, ([], 0), ([], 0)⟩ d.A d.F none none d.na d.nf 0 0 d.ca d.cf 0 0 (by rw [h.hao]; exact h.paT ht) (by rw [h.hfo]; exact h.pfT ht) (PtAt.zero _) (PtAt.zero _)
  rw [← hE]
  have e : samS ⟨false, r.a, r.f⟩ ⟨false, ([], 0), ([], 0)⟩ = (zP r.a && zP r.f) := by
    unfold samS zP
    simp
  rw [e] at h2
  simp only at h2
  rw [h.hao, h.hfo] at h2
  exact h2
/-- Has a ref what its kind does not have? -/
def strayB (k1 k2 k3 : Bool) (np : Nat) (E1 E2 : Bool) : Bool := (k1 && decide (0 < np)) || ((k2 && !E1) || (k3 && !E2))

set_option maxRecDepth 100000 in
set_option maxHeartbeats 8000000 in
theorem hstray_any {w : World} {d : RC} {r : RefP} {k1 k2 k3 E1 E2 : Bool} (hr : RkA w d r) (ht : tinyR r) (e1 : (d.kind != 1) = k1) (e2 : (d.kind != 2) = k2) (e3 : (d.kind != 3) = k3) (hE1 : zP r.q = E1) (hE2 : (zP r.a && zP r.f) = E2) : Calls Try.prog 25 #[.agg d.row] w (Still (.bool (strayB k1 k2 k3 d.np E1 E2)) w) := by
  obtain ⟨W0, hW⟩ : ∃ W0, w.alloc (.cells d.row 34) = W0 := ⟨_, rfl⟩
  have hv := (ref_var w d).1
  have hb := (ref_var w d).2
  rw [hW] at hv hb
  have HK := hd (fun W (h : Below W0.heap.size W0 W) => (hv.keep h).eleven)
  have HR := hd (fun W (h : Below W0.heap.size W0 W) => (hr.later hb).later h)
  have HT := hd ht
  have hm := hr.hp.max
  have H1 := hd hE1
  have H2 := hd hE2
  have HW := hd hW
  have HB := hd hb
  have HBc := hd (Below.refl W0.heap.size W0)
  clear hW hb hv hr ht hE1 hE2
  obtain ⟨⟨u0, u1, u2, u3⟩, u4, ⟨u5, u6⟩, u7, u8, u9, u10⟩ := HK.out _ HBc.out
  go_enter Try.func25, Try.ntmps25
  go_upto_region 1 with fail
  rw [HW.out]
  go_wp2_with (first
    | (go_at_call 48; refine Calls.mono (hpt_same ((HR.out _ HBc.out).ptT HT.out) (PtAt.zero _) H1.out) ?_; rintro e w9 ⟨rfl, b9⟩; have HBc := hd (step_b HBc.out b9); clear b9 u0 u1 u2 u3 u4 u5 u6 u7 u8 u9 u10; obtain ⟨⟨u0, u1, u2, u3⟩, u4, ⟨u5, u6⟩, u7, u8, u9, u10⟩ := HK.out _ HBc.out)
    | (go_at_call 49; refine Calls.mono (hsel_same (HR.out _ HBc.out) HT.out H2.out) ?_; rintro e w9 ⟨rfl, b9⟩; have HBc := hd (step_b HBc.out b9); clear b9))
  all_goals (go_ret; refine ⟨ret_bool ?_, HB.out.trans (HBc.out.mono HB.out.size)⟩)
  all_goals first
    | (unfold strayB; simp_all; done)
    | (unfold strayB; simp_all; omega)
    | (unfold strayB; simp_all; intros; simp_all; omega)

set_option maxRecDepth 4000 in
theorem getE_step {n k : NT} {i : Int} {r : List Int} (h : kidT n i = some k) : (getE n (i :: r)).2 = (getE k r).2 := by unfold getE; rw [getO, h]
set_option maxRecDepth 4000 in
theorem getE_stop {n : NT} {i : Int} {r : List Int} (h : kidT n i = none) : (getE n (i :: r)).2 = 5 := by unfold getE; rw [getO, h]
/-- Where the walk down a path stands. -/
structure Down (w : World) (n : NT) (p : List Int) (k : Nat) (c : NC) (m : NT) (W : World) : Prop where
  at_ : ∃ d, NodeAt d w w.heap.size (.agg c.row) m
  ans : (getE n p).2 = (getE m (p.drop k)).2
  below : Below w.heap.size w W
  var : VarR 26 W w.heap.size c.row
set_option maxRecDepth 100000 in
set_option maxHeartbeats 8000000 in
theorem hthere_any {w : World} {c : NC} {n : NT} {A : Option Addr} {p : List Int} {lp cap : Nat} {E : Int} (hn : HasN w c n) (hlp : p.length = lp) (hl : lp ≤ 10000) (hp : IL w w.heap.size A p) (hE : (getE n p).2 = E) : Calls Try.prog 37 #[.agg c.row, .slice A lp cap] w (Still (.int .i64 E) w) := by
  subst hE
  have HD := hd (show Down w n p 0 c n (w.alloc (.cells c.row 26)) from ⟨hn, rfl, (Below.refl _ _).alloc (Nat.le_refl _) _, VarR.new w _ _⟩)
  have HP := hd hp
  have HL := hd hlp
  obtain ⟨W0, hW⟩ : ∃ W0, w.alloc (.cells c.row 26) = W0 := ⟨_, rfl⟩
  rw [hW] at HD
  have HW := hd hW
  clear hn hp hlp hW
  go_enter Try.func37, Try.ntmps37
  go_upto_region 1 with fail
  rw [HW.out]
  go_wp2_with fail
  go_loopw [9] (fun i wr => ∃ k : Nat, k ≤ lp ∧ i = .int .i64 k ∧ ∃ c m, Hid (Down w n p k c m wr)) (fun i _ => lp - (intOf i).toNat)
  case atStart => exact ⟨0, Nat.zero_le _, rfl, c, n, HD⟩
  case round =>
    obtain ⟨k, hk, rfl, c, m, HD⟩ := hrel
    by_cases hlt : k < lp
    · obtain ⟨b, o, rfl, hb, hc⟩ := HP.out.at_ (k := k) (by rw [HL.out]; exact hlt)
      have hx := (HD.out.below.cell (p := ⟨b, o + k, none⟩) hb).trans hc
      obtain ⟨v, hv⟩ : ∃ v, iAt p k = v := ⟨_, rfl⟩
      have hdr : p.drop k = v :: p.drop (k + 1) := by
        rw [List.drop_eq_getElem_cons (by rw [HL.out]; exact hlt), ← hv, iAt_eq p k (by rw [HL.out]; exact hlt)]
      rw [hv] at hx
      have HDR := hd hdr
      obtain ⟨n0, n1, n2, n3⟩ := HD.out.var.node
      obtain ⟨d, hna⟩ := HD.out.at_
      obtain ⟨d', lf, ps, tx, ks, PA, pc, TA, tc, KA, kc, rfl, hm, hcr, _, _, hfit, hks⟩ := hna.open_
      have hnk : c.nk = ks.length := by
        unfold NC.row at hcr
        simp at hcr
        exact hcr.2.2.2.2.1
      have hKA : c.K = KA := by
        unfold NC.row at hcr
        simp at hcr
        exact hcr.2.2.2.1
      have hkl : m.ks = ks := by rw [hm]; rfl
      have hk63 : ks.length ≤ 1759218604441 := hfit.2.2.2.1
      clear hcr hfit hm
      subst hKA
      rw [hnk] at n3
      by_cases hv0 : v < 0
      · have HE := hd (show (getE n p).2 = 5 by rw [HD.out.ans, HDR.out, getE_stop (kid_none (by unfold hasB; simp; omega))])
        clear hks hdr hkl hnk
        go_wp2_with fail
        go_ret
        exact ⟨ret_int HE.out.symm, HD.out.below⟩
      obtain ⟨vn, rfl⟩ : ∃ vn : Nat, v = vn := ⟨v.toNat, by omega⟩
      clear hv0
      by_cases hvl : vn < ks.length
      · obtain ⟨m2, b2, o2, lf2, PA2, np2, pc2, TA2, nt2, tc2, KA2, nk2, kc2, hm2, e2, hb2, hna2, c0, c1, c2, c3⟩ := hks.at_ hvl
        rw [e2] at n3
        have c0 := (HD.out.below.cell (p := ⟨b2, o2 + vn * 4, none⟩) hb2).trans c0
        have c1 := (HD.out.below.cell (p := ⟨b2, o2 + vn * 4 + 1, none⟩) hb2).trans c1
        have c2 := (HD.out.below.cell (p := ⟨b2, o2 + vn * 4 + 2, none⟩) hb2).trans c2
        have c3 := (HD.out.below.cell (p := ⟨b2, o2 + vn * 4 + 3, none⟩) hb2).trans c3
        have HA2 := hd hna2
        have HANS := hd (show (getE n p).2 = (getE m2 (p.drop (k + 1))).2 by
          rw [HD.out.ans, HDR.out, getE_step (k := m2)]
          unfold kidT
          rw [if_pos (by omega), hkl]
          simpa using hm2)
        clear hks hdr hkl hnk hm2 hna2 e2
        go_wp2_with (first
          | ((with_reducible refine gd_store (ty := 26) (x := .tmp 2) ?_); refine wpList_store_row2 rowT_node (r := (⟨lf2, PA2, np2, pc2, TA2, nt2, tc2, KA2, nk2, kc2⟩ : NC).row) HD.out.var rfl rfl (by kernel_rfl) _ _ rfl rfl rfl rfl rfl ?_; intro W9 hv9 ho9; have HD := hd (show Down w n p (k + 1) ⟨lf2, PA2, np2, pc2, TA2, nt2, tc2, KA2, nk2, kc2⟩ m2 W9 from ⟨⟨_, HA2.out⟩, HANS.out, off_below HD.out.below ho9 (Nat.le_refl _), hv9⟩); clear hv9 ho9))
        go_roundw
        case rel => exact ⟨k + 1, by omega, by go_num, _, _, HD⟩
        case measure => simp [intOf]; omega
      · have HE := hd (show (getE n p).2 = 5 by rw [HD.out.ans, HDR.out, getE_stop (kid_none (by unfold hasB; rw [hkl]; simp; omega))])
        clear hks hdr hkl hnk
        go_wp2_with fail
        go_ret
        exact ⟨ret_int HE.out.symm, HD.out.below⟩
    · obtain rfl : k = lp := by omega
      have HE := hd (show (getE n p).2 = 0 by rw [HD.out.ans, List.drop_of_length_le (Nat.le_of_eq HL.out)]; rfl)
      clear hlt
      go_wp2_with fail
      go_ret
      exact ⟨ret_int HE.out.symm, HD.out.below⟩

end Go.Proofs.Ytmglnjmnabjjgaa
