/- The reader of a text: a node's beginning. The nodes that have begun and not ended, in a row of the call's own, each with its own row of Kids. A node that has ended becomes a kid of the one above it: what the two stores leave, whichever comes first. -/
import Derived.Test.YtknkclbjocfhiaaDoorCRead2
namespace Go.Proofs.YtknkclbjocfhiaaDoor
open Go.RowKit

theorem setBlk {w : World} {g k : Nat} {x : Value} {cs : Array Value} {t : TypeId} (h : w.heap[g]? = some (.cells cs t (0, 0))) : (w.setCell ⟨g, k, none⟩ x).heap[g]? = some (.cells (cs.setIfInBounds k x) t (0, 0)) := by
  have hlt := lt_of_block h
  have h' : w.heap[g] = .cells cs t (0, 0) := by simpa [Array.getElem?_eq_getElem hlt] using h
  show (w.heap.modify g _)[g]? = _
  rw [Array.getElem?_eq_getElem (by simpa using hlt), Array.getElem_modify_self, h']
  rfl
set_option maxRecDepth 4000 in
theorem newBlkAt (w : World) (cs : Array Value) (t : TypeId) : (w.alloc (.cells cs t)).heap[w.heap.size]? = some (.cells cs t (0, 0)) := by
  show (w.heap.push _)[w.heap.size]? = _; simp
/-- A variable of four cells. -/
structure V4 (g : Nat) (a b c d : Value) (w : World) : Prop where
  blk : w.heap[g]? = some (.cells #[a, b, c, d] 26 (0, 0))
section
variable {g R B : Nat} {a b c d x : Value} {w w' : World}
set_option maxRecDepth 4000 in
theorem V4.lt (h : V4 g a b c d w) : g < w.heap.size := lt_of_block h.blk
set_option maxRecDepth 4000 in
theorem V4.cells (h : V4 g a b c d w) : w.cell? ⟨g, 0, none⟩ = some a ∧ w.cell? ⟨g, 1, none⟩ = some b ∧ w.cell? ⟨g, 2, none⟩ = some c ∧ w.cell? ⟨g, 3, none⟩ = some d := by
  refine ⟨?_, ?_, ?_, ?_⟩ <;> (rw [Lib.cell_of_heap h.blk]; rfl)
set_option maxRecDepth 4000 in
theorem V4.free (h : V4 g a b c d w) (k : Nat) : w.frozen? ⟨g, k, none⟩ = false := Lib.frozen_of_heap h.blk k
set_option maxRecDepth 4000 in
theorem V4.frees (h : V4 g a b c d w) : w.frozen? ⟨g, 0, none⟩ = false ∧ w.frozen? ⟨g, 1, none⟩ = false ∧ w.frozen? ⟨g, 2, none⟩ = false ∧ w.frozen? ⟨g, 3, none⟩ = false := ⟨h.free 0, h.free 1, h.free 2, h.free 3⟩
set_option maxRecDepth 4000 in
theorem V4.off (h : V4 g a b c d w) (ho : OffB R w.heap.size w w') (hg : g ≠ R) : V4 g a b c d w' := ⟨(ho.block g h.lt hg).trans h.blk⟩
set_option maxRecDepth 4000 in
theorem V4.below (h : V4 g a b c d w) (ho : Below w.heap.size w w') : V4 g a b c d w' := ⟨(ho.block g h.lt).trans h.blk⟩
set_option maxRecDepth 4000 in
theorem V4.drewN (h : V4 g a b c d w) (n : Nat) : V4 g a b c d (w.drewN n) := ⟨h.blk⟩
set_option maxRecDepth 4000 in
theorem V4.set0 (h : V4 g a b c d w) (x : Value) : V4 g x b c d (w.setCell ⟨g, 0, none⟩ x) := ⟨setBlk h.blk⟩
set_option maxRecDepth 4000 in
theorem V4.set1 (h : V4 g a b c d w) (x : Value) : V4 g a x c d (w.setCell ⟨g, 1, none⟩ x) := ⟨setBlk h.blk⟩
set_option maxRecDepth 4000 in
theorem V4.set2 (h : V4 g a b c d w) (x : Value) : V4 g a b x d (w.setCell ⟨g, 2, none⟩ x) := ⟨setBlk h.blk⟩
set_option maxRecDepth 4000 in
theorem V4.set3 (h : V4 g a b c d w) (x : Value) : V4 g a b c x (w.setCell ⟨g, 3, none⟩ x) := ⟨setBlk h.blk⟩
set_option maxRecDepth 4000 in
theorem V4.far (h : V4 g a b c d w) {q k : Nat} (hq : g ≠ q) (x : Value) : V4 g a b c d (w.setCell ⟨q, k, none⟩ x) := ⟨(Below.heap_setCell _ _ _ _ (by simpa using hq)).trans h.blk⟩
set_option maxRecDepth 4000 in
theorem V4.new (w : World) (a b c d : Value) : V4 w.heap.size a b c d (w.alloc (.cells #[a, b, c, d] 26)) := ⟨newBlkAt w _ _⟩
set_option maxRecDepth 4000 in
theorem Rd.off {i : Nat} {s : ByteArray} (h : Rd R s i w) (ho : OffB g w.heap.size w w') (hg : R ≠ g) : Rd R s i w' := ⟨(ho.block R h.lt hg).trans h.blk⟩
set_option maxRecDepth 4000 in
theorem Rd.far {i q k : Nat} {s : ByteArray} (h : Rd R s i w) (hq : R ≠ q) (x : Value) : Rd R s i (w.setCell ⟨q, k, none⟩ x) := ⟨(Below.heap_setCell _ _ _ _ (by simpa using hq)).trans h.blk⟩
set_option maxRecDepth 4000 in
theorem Rd.alloc {i : Nat} {s : ByteArray} (h : Rd R s i w) (o : Obj) : Rd R s i (w.alloc o) := h.below ((Below.refl _ _).alloc (Nat.le_refl _) _)
set_option maxRecDepth 4000 in
theorem OffB.far (h : OffB R B w w') {q k : Nat} (hq : B ≤ q) (x : Value) : OffB R B w (w'.setCell ⟨q, k, none⟩ x) :=
  ⟨h.os, h.tape, h.output, by simpa using h.size, fun j h1 h2 => (Below.heap_setCell _ _ _ _ (show j ≠ q by omega)).trans (h.block j h1 h2)⟩
end

theorem unqS_len {s : ByteArray} {j : Nat} (h : atB s j = some 34) {x : List Int} {p : Int} (hu : unqS s.data.toList j = (x, p, 0)) : x.length ≤ s.size := by
  have h1 := qEnd_range (show s.data.toList[j]? = some 34 from h)
  obtain ⟨_, _, h4⟩ := unqL_inv _ x p hu
  have h5 := cutS_len s.data.toList j (qEnd s.data.toList j) h1.2
  rw [h4, quoL_len] at h5
  have h6 := bodyL_ge' x
  rw [data_size] at h1
  omega
/-- What begin leaves. -/
def Begun (R : Nat) (s : ByteArray) (r : Res NT) (w : World) (e : Ending) (w' : World) : Prop :=
  OffB R w.heap.size w w' ∧ match r with
  | .bad p er => Rd R s p w' ∧ ∃ lf PA np pc TA nt tc KA nk kc, e = .returned (.tuple #[.agg #[.bool lf, .slice PA np pc, .slice TA nt tc, .slice KA nk kc], .int .i64 er])
  | .ok n j => Rd R s j w' ∧ ∃ PA np pc TA nt tc, e = .returned (.tuple #[.agg #[.bool n.lf, .slice PA np pc, .slice TA nt tc, .slice none 0 0], .int .i64 0]) ∧ np = n.ps.length ∧ nt = n.tx.length ∧ n.ks = [] ∧ np ≤ pc ∧ nt ≤ tc ∧ nt ≤ 40000 ∧ chk n.ps = 0 ∧
      VP (fun b => w.heap.size ≤ b ∧ b < w'.heap.size) w' PA (pv n.ps) ∧ VP (fun b => w.heap.size ≤ b ∧ b < w'.heap.size) w' TA (rv n.tx)

/-- Nothing has changed but two blocks. -/
structure Off2 (R g : Nat) (w w' : World) : Prop where
  size : w.heap.size ≤ w'.heap.size
  block : ∀ k, k < w.heap.size → k ≠ R → k ≠ g → w'.heap[k]? = w.heap[k]?
section
variable {R g : Nat} {w w' w2 : World}
set_option maxRecDepth 4000 in
theorem Off2.refl (R g : Nat) (w : World) : Off2 R g w w := ⟨Nat.le_refl _, fun _ _ _ _ => rfl⟩
set_option maxRecDepth 4000 in
theorem Off2.drewN (h : Off2 R g w w') (n : Nat) : Off2 R g w (w'.drewN n) := ⟨h.size, h.block⟩
set_option maxRecDepth 4000 in
theorem Off2.setR (h : Off2 R g w w') (k : Nat) (x : Value) : Off2 R g w (w'.setCell ⟨R, k, none⟩ x) := ⟨by simpa using h.size, fun j h1 h2 h3 => (Below.heap_setCell _ _ _ _ (show j ≠ R from h2)).trans (h.block j h1 h2 h3)⟩
set_option maxRecDepth 4000 in
theorem Off2.setG (h : Off2 R g w w') (k : Nat) (x : Value) : Off2 R g w (w'.setCell ⟨g, k, none⟩ x) := ⟨by simpa using h.size, fun j h1 h2 h3 => (Below.heap_setCell _ _ _ _ (show j ≠ g from h3)).trans (h.block j h1 h2 h3)⟩
set_option maxRecDepth 4000 in
theorem Off2.off (h : Off2 R g w w') (k : OffB R w'.heap.size w' w2) : Off2 R g w w2 := ⟨Nat.le_trans h.size k.size, fun j h1 h2 h3 => (k.block j (Nat.lt_of_lt_of_le h1 h.size) h2).trans (h.block j h1 h2 h3)⟩
set_option maxRecDepth 4000 in
theorem Off2.set4 (h : Off2 R g w w') (a b c d : Value) : Off2 R g w ((((w'.setCell ⟨g, 0, none⟩ a).setCell ⟨g, 1, none⟩ b).setCell ⟨g, 2, none⟩ c).setCell ⟨g, 3, none⟩ d) := (((h.setG 0 a).setG 1 b).setG 2 c).setG 3 d
set_option maxRecDepth 4000 in
theorem VP.off2 {P Q : Nat → Prop} {A : Option Addr} {xs : List Value} (h : VP P w A xs) (ho : Off2 R g w w') (hP : ∀ b, P b → b < w.heap.size ∧ b ≠ R ∧ b ≠ g) (hQ : ∀ b, P b → Q b) : VP Q w' A xs :=
  h.keep hQ fun p hp => by
    obtain ⟨h1, h2, h3⟩ := hP _ hp
    have := ho.block _ h1 h2 h3
    exact ⟨World.cell?_of_block this, World.frozen?_of_block this⟩
set_option maxRecDepth 4000 in
theorem OffB.far4 {B : Nat} (h : OffB R B w w') (hq : B ≤ g) (a b c d : Value) : OffB R B w ((((w'.setCell ⟨g, 0, none⟩ a).setCell ⟨g, 1, none⟩ b).setCell ⟨g, 2, none⟩ c).setCell ⟨g, 3, none⟩ d) := (((h.far hq a).far hq b).far hq c).far hq d
set_option maxRecDepth 4000 in
theorem Rd.far4 {i : Nat} {s : ByteArray} (h : Rd R s i w) (hq : R ≠ g) (a b c d : Value) : Rd R s i ((((w.setCell ⟨g, 0, none⟩ a).setCell ⟨g, 1, none⟩ b).setCell ⟨g, 2, none⟩ c).setCell ⟨g, 3, none⟩ d) := (((h.far hq a).far hq b).far hq c).far hq d
set_option maxRecDepth 4000 in
theorem Rd.setz {i j : Nat} {s : ByteArray} {z : Int} (h : Rd R s i w) (hz : z = (j : Int)) : Rd R s j (w.setCell ⟨R, 1, none⟩ (.int .i64 z)) := hz ▸ h.set j
end
set_option maxRecDepth 4000 in
theorem own_vp1 {t : TypeId} {w : World} {b n c : Nat} {A : Option Addr} {xs : List Value} (h : OwnV t w b (.slice A n c) xs) : VP (fun k => b ≤ k ∧ k < w.heap.size) w A xs := by
  obtain ⟨A', c', e, _, _, ho⟩ := h
  injection e with e1 e2 e3
  subst e1 e2 e3
  exact rowVP ho fun g hg => ho.lt g hg

set_option maxRecDepth 4000 in
set_option maxHeartbeats 8000000 in
theorem begin_any (R : Nat) (s : ByteArray) (i : Nat) (w : World) (h : Rd R s i w) (_hi : i ≤ s.size) (hs : s.size ≤ 40000) :
    Calls Tryd.prog 51 #[.pointer (some ⟨R, 0, none⟩)] w (Begun R s (beginP s.data.toList i) w) := by
  have hRl := h.lt
  have hgR : R ≠ w.heap.size := by omega
  obtain ⟨W1, hW1⟩ : ∃ W1, W1 = w.alloc (.cells #[.bool false, .slice none 0 0, .slice none 0 0, .slice none 0 0] 26) := ⟨_, rfl⟩
  have HV1 := hd (hW1 ▸ V4.new w (.bool false) (.slice none 0 0) (.slice none 0 0) (.slice none 0 0))
  have HR1 := hd (hW1 ▸ h.alloc (.cells #[.bool false, .slice none 0 0, .slice none 0 0, .slice none 0 0] 26))
  have HO1 := hd (hW1 ▸ (OffB.refl R w.heap.size w).alloc (.cells #[.bool false, .slice none 0 0, .slice none 0 0, .slice none 0 0] 26) (Nat.le_refl _))
  have hz1 : W1.heap.size = w.heap.size + 1 := by rw [hW1]; simp
  by_cases h123 : atB s i = some 123
  · have hil := atB_lt h123
    have HC1 := hd (take_yes R s i 123 123 rfl W1 HR1.out (by omega) h123)
    have HH := hd (show headP s.data.toList i = propsP s.data.toList [] (i + 1) by unfold headP; rw [if_pos (show s.data.toList[i]? = some 123 from h123)])
    clear h h123
    subst hW1
    go_enter Tryd.func51, Tryd.ntmps51
    go_wp2_with fail
    refine HC1.out.mono ?_
    rintro e w2 ⟨rfl, hr2, ho2⟩
    have hz2 := ho2.size
    have HV2 := hd (HV1.out.off ho2 (by omega))
    have HO2 := hd (HO1.out.trans (ho2.less (by omega)))
    have HC2 := hd (props_any w2.heap.size R s (i + 1) w2 hr2 hil (by omega) (by have := hr2.lt; omega) (Nat.le_refl _))
    clear hr2 ho2
    cases hp : propsP s.data.toList [] (i + 1) with
    | bad p er =>
      have HF := hd (show beginP s.data.toList i = .bad p er by unfold beginP; rw [HH.out, hp])
      have hne : er ≠ 0 := ((propsP_range _ s.data.toList [] (i + 1) (Nat.le_refl _) (by rw [data_size]; exact hil)).2 p er hp).2
      have hb : (er != 0) = true := by simpa using hne
      rw [hp] at HC2
      have HC2 := hd HC2.out
      clear hp hne
      obtain ⟨x0, x1, x2, x3⟩ := HV2.out.cells
      go_wp2_with fail
      refine HC2.out.mono ?_
      intro e w3 h3
      obtain ⟨ho3, rfl, hr3⟩ := h3
      have HV3 := hd (HV2.out.off ho3 (by omega))
      clear x0 x1 x2 x3
      obtain ⟨x0, x1, x2, x3⟩ := HV3.out.cells
      obtain ⟨f0, f1, f2, f3⟩ := HV3.out.frees
      have HR3 := hd hr3
      have HO3 := hd (HO2.out.trans (ho3.less (by omega)))
      clear hr3 ho3
      go_wp2
      refine bodyPost_ret (v := .tuple #[.agg #[.bool false, .slice none 0 0, .slice none 0 0, .slice none 0 0], .int .i64 er]) (by simp [results, Tryd.results51, go_sem, x0, x1, x2, x3]) rfl ?_
      rw [HF.out]
      exact ⟨((((HO3.out.far (Nat.le_refl _) _).far (Nat.le_refl _) _).far (Nat.le_refl _) _).far (Nat.le_refl _) _).far (Nat.le_refl _) _, ((((HR3.out.far hgR _).far hgR _).far hgR _).far hgR _).far hgR _, _, _, _, _, _, _, _, _, _, _, rfl⟩
    | ok ps j =>
      have HB := hd (show beginP s.data.toList i = bodyP s.data.toList ps j by unfold beginP; rw [HH.out, hp])
      have hpr := (propsP_range _ s.data.toList [] (i + 1) (Nat.le_refl _) (by rw [data_size]; exact hil)).1 ps j hp
      rw [data_size] at hpr
      obtain ⟨hj1, hj2, hck, _⟩ := hpr
      rw [hp] at HC2
      have HC2 := hd HC2.out
      clear hp
      obtain ⟨x0, x1, x2, x3⟩ := HV2.out.cells
      go_wp2_with fail
      refine HC2.out.mono ?_
      intro e w3 h3
      obtain ⟨ho3, hr3, A, c, rfl, hw3⟩ := h3
      have HV3 := hd (HV2.out.off ho3 (by omega))
      have hz3 := ho3.size
      have hnc : ps.length ≤ c := by
        obtain ⟨_, c', e, h1, _⟩ := rowFree hw3
        injection e with _ _ e
        omega
      have HVP := hd (rowVP (P := fun b => w2.heap.size ≤ b ∧ b < w3.heap.size) hw3 fun g hg => hw3.lt g hg)
      obtain ⟨np, hnp⟩ : ∃ np, np = ps.length := ⟨_, rfl⟩
      rw [← hnp] at hnc ⊢
      have HNP := hd (⟨hnp, hnc, hck⟩ : np = ps.length ∧ np ≤ c ∧ chk ps = 0)
      clear x0 x1 x2 x3 hck hnp
      obtain ⟨x0, x1, x2, x3⟩ := HV3.out.cells
      obtain ⟨f0, f1, f2, f3⟩ := HV3.out.frees
      have HR3 := hd hr3
      have HO3 := hd (HO2.out.trans (ho3.less (by omega)))
      clear hr3 ho3 hw3
      go_wp2_with fail
      generalize hWj : World.setCell w3 _ _ = Wj
      have HVj := hd (hWj ▸ HV3.out.set1 (.slice A np c))
      have HRj := hd (hWj ▸ HR3.out.far (k := 1) hgR (.slice A np c))
      have HOj := hd (hWj ▸ HO3.out.far (q := w.heap.size) (k := 1) (Nat.le_refl _) (.slice A np c))
      have HVPj := hd (show VP (fun b => w.heap.size < b ∧ b < Wj.heap.size) Wj A (pv ps) from hWj ▸ HVP.out.off2 (R := R) (g := w.heap.size) ((Off2.refl _ _ w3).setG 1 (.slice A np c)) (fun b hb => ⟨hb.2, by omega, by omega⟩) (fun b hb => ⟨by omega, by simpa using hb.2⟩))
      clear hWj x0 x1 x2 x3 f0 f1 f2 f3
      have hzj := HOj.out.size
      have hgj := HVj.out.lt
      by_cases h91 : atB s j = some 91
      · have HF := hd (HB.out.trans (show bodyP s.data.toList ps j = .ok (.mk false ps [] []) (j + 1) by unfold bodyP; rw [if_pos (show s.data.toList[j]? = some 91 from h91)]))
        have HN := hd (rnext_any R s j 91 91 rfl true (decide_eq_true h91) Wj HRj.out (by omega))
        have hjl := atB_lt h91
        clear h91
        refine HN.out.mono ?_
        rintro e w5 ⟨rfl, kd, rfl⟩
        have HV5 := hd (HVj.out.drewN kd)
        have HR5 := hd (HRj.out.drewN kd)
        obtain ⟨x0, x1, x2, x3⟩ := HV5.out.cells
        obtain ⟨f0, f1, f2, f3⟩ := HV5.out.frees
        obtain ⟨y0, y1, y2⟩ := HR5.out.cells
        go_wp2
        refine bodyPost_ret (v := .tuple #[.agg #[.bool false, .slice A np c, .slice none 0 0, .slice none 0 0], .int .i64 0]) (by simp [results, Tryd.results51, go_sem, x0, x1, x2, x3]) rfl ?_
        rw [HF.out]
        exact ⟨((HOj.out.drewN kd).set 1 _).far4 (Nat.le_refl _) _ _ _ _, (HR5.out.setz (j := j + 1) (by omega)).far4 hgR _ _ _ _, _, _, _, _, _, _, rfl, HNP.out.1, rfl, rfl, HNP.out.2.1, Nat.le_refl _, Nat.zero_le _, HNP.out.2.2,
          HVPj.out.off2 ((((Off2.refl R w.heap.size Wj).drewN kd).setR 1 _).set4 _ _ _ _) (fun b hb => ⟨hb.2, by omega, by omega⟩) (fun b hb => ⟨by omega, by simpa using hb.2⟩), fun k u hu => by simp [rv, NT.tx] at hu⟩
      · have HN := hd (rnext_any R s j 91 91 rfl false (decide_eq_false h91) Wj HRj.out (by omega))
        refine HN.out.mono ?_
        rintro e w5 ⟨rfl, kd, rfl⟩
        have HV5 := hd (HVj.out.drewN kd)
        have HR5 := hd (HRj.out.drewN kd)
        by_cases h34 : atB s j = some 34
        · have HN2 := hd (rnext_any R s j 34 34 rfl true (decide_eq_true h34) (Wj.drewN kd) HR5.out (by omega))
          go_wp2_with fail
          refine HN2.out.mono ?_
          rintro e w6 ⟨rfl, kd2, rfl⟩
          have HV6 := hd (HVj.out.drewN (kd + kd2))
          obtain ⟨x0, x1, x2, x3⟩ := HV6.out.cells
          obtain ⟨f0, f1, f2, f3⟩ := HV6.out.frees
          go_wp2_with fail
          generalize hW7 : World.setCell _ ⟨w.heap.size, 0, none⟩ _ = W7
          have HV7 := hd (hW7 ▸ HV6.out.set0 (.bool true))
          have HR7 := hd (hW7 ▸ (HRj.out.drewN (kd + kd2)).far (k := 0) hgR (.bool true))
          have HO7 := hd (hW7 ▸ (HOj.out.drewN (kd + kd2)).far (q := w.heap.size) (k := 0) (Nat.le_refl _) (.bool true))
          have HX7 := hd (hW7 ▸ ((Off2.refl R w.heap.size Wj).drewN (kd + kd2)).setG 0 (.bool true))
          have hz7 : W7.heap.size = Wj.heap.size := by rw [← hW7]; simp
          have HT := hd (text_any R s j W7 HR7.out h34 (by omega))
          obtain ⟨x, p, er, hu⟩ : ∃ x p er, unqS s.data.toList j = (x, p, er) := ⟨_, _, _, rfl⟩
          have HB2 := hd (HB.out.trans (show bodyP s.data.toList ps j = if er ≠ 0 then .bad (j + p.toNat) er else .ok (.mk true ps x []) (qEnd s.data.toList j) by
            unfold bodyP
            rw [if_neg (show ¬ s.data.toList[j]? = some 91 from h91), if_pos (show s.data.toList[j]? = some 34 from h34), hu]))
          have hql := qEnd_range (show s.data.toList[j]? = some 34 from h34)
          rw [data_size] at hql
          have HU := hd hu
          have HLX := hd (fun (h0 : er = 0) => unqS_len (s := s) h34 (x := x) (p := p) (by rw [← h0]; exact hu))
          clear hW7 x0 x1 x2 x3 f0 f1 f2 f3 hu h91 h34
          refine HT.out.mono ?_
          intro e w8 h8
          obtain ⟨ho8, h8a, h8b⟩ := h8
          rw [HU.out] at h8a h8b
          have HV8 := hd (HV7.out.off ho8 (by omega))
          have HO8 := hd (HO7.out.trans (ho8.less (by omega)))
          have HX8 := hd (HX7.out.off ho8)
          have hz8 := ho8.size
          obtain ⟨x0, x1, x2, x3⟩ := HV8.out.cells
          obtain ⟨f0, f1, f2, f3⟩ := HV8.out.frees
          by_cases he : er = 0
          · obtain ⟨hr8, v, rfl, hv8⟩ := h8b he
            obtain ⟨nt, hnt⟩ : ∃ nt, nt = x.length := ⟨_, rfl⟩
            obtain ⟨TA, tc, rfl, hxc, _, hvl, ho8'⟩ := hv8.open_at nt (by rw [rv_len, hnt])
            have HF := hd (HB2.out.trans (if_neg (by simp [he])))
            have hxl := HLX.out he
            have HR8 := hd hr8
            have HW8 := hd (own_vp1 ho8')
            clear he hr8 hv8 hvl h8a h8b ho8 ho8'
            have HNT := hd hnt
            clear hnt
            go_wp2
            refine bodyPost_ret (v := .tuple #[.agg #[.bool true, .slice A np c, .slice TA nt tc, .slice none 0 0], .int .i64 0]) (by simp [results, Tryd.results51, go_sem, x0, x1, x2, x3]) rfl ?_
            rw [HF.out]
            exact ⟨(HO8.out.far (Nat.le_refl _) _).far4 (Nat.le_refl _) _ _ _ _, (HR8.out.far hgR _).far4 hgR _ _ _ _, _, _, _, _, _, _, rfl, HNP.out.1, HNT.out, rfl, HNP.out.2.1, hxc, by have := HNT.out; omega, HNP.out.2.2,
              HVPj.out.off2 ((HX8.out.setG 2 _).set4 _ _ _ _) (fun b hb => ⟨hb.2, by omega, by omega⟩) (fun b hb => ⟨by omega, by have := hb.2; simp; omega⟩),
              HW8.out.off2 (((Off2.refl R w.heap.size w8).setG 2 _).set4 _ _ _ _) (fun b hb => ⟨hb.2, by omega, by omega⟩) (fun b hb => ⟨by omega, by simpa using hb.2⟩)⟩
          · obtain ⟨rfl, hr8⟩ := h8a he
            have HF := hd (HB2.out.trans (if_pos he))
            have hb : (er != 0) = true := by simpa using he
            have HR8 := hd hr8
            clear he hr8 h8a h8b ho8
            go_wp2
            refine bodyPost_ret (v := .tuple #[.agg #[.bool true, .slice A np c, .slice none 0 0, .slice none 0 0], .int .i64 er]) (by simp [results, Tryd.results51, go_sem, x0, x1, x2, x3]) rfl ?_
            rw [HF.out]
            exact ⟨(HO8.out.far (Nat.le_refl _) _).far4 (Nat.le_refl _) _ _ _ _, (HR8.out.far hgR _).far4 hgR _ _ _ _, _, _, _, _, _, _, _, _, _, _, rfl⟩
        · have HN2 := hd (rnext_any R s j 34 34 rfl false (decide_eq_false h34) (Wj.drewN kd) HR5.out (by omega))
          have HF := hd (HB.out.trans (show bodyP s.data.toList ps j = .bad j 11 by unfold bodyP; rw [if_neg (show ¬ s.data.toList[j]? = some 91 from h91), if_neg (show ¬ s.data.toList[j]? = some 34 from h34)]))
          clear h91 h34
          go_wp2_with fail
          refine HN2.out.mono ?_
          rintro e w6 ⟨rfl, kd2, rfl⟩
          have HV6 := hd (HVj.out.drewN (kd + kd2))
          obtain ⟨x0, x1, x2, x3⟩ := HV6.out.cells
          obtain ⟨f0, f1, f2, f3⟩ := HV6.out.frees
          go_wp2
          refine bodyPost_ret (v := .tuple #[.agg #[.bool false, .slice A np c, .slice none 0 0, .slice none 0 0], .int .i64 11]) (by simp [results, Tryd.results51, go_sem, x0, x1, x2, x3]) rfl ?_
          rw [HF.out]
          exact ⟨(HOj.out.drewN (kd + kd2)).far4 (Nat.le_refl _) _ _ _ _, (HRj.out.drewN (kd + kd2)).far4 hgR _ _ _ _, _, _, _, _, _, _, _, _, _, _, rfl⟩
  · have HC1 := hd (take_no R s i 123 123 rfl W1 HR1.out (by omega) h123)
    obtain ⟨ps, hps⟩ : ∃ ps : List Pr, ps = [] := ⟨_, rfl⟩
    obtain ⟨j, hj⟩ : ∃ j, j = i := ⟨_, rfl⟩
    have HB := hd (show beginP s.data.toList i = bodyP s.data.toList ps j by
      unfold beginP headP
      rw [if_neg (show ¬ s.data.toList[i]? = some 123 from h123), hps, hj])
    have HNP := hd (show 0 = ps.length ∧ 0 ≤ 0 ∧ chk ps = 0 from ⟨by rw [hps]; rfl, Nat.le_refl _, by rw [hps]; rfl⟩)
    have HJ := hd hj
    have HVPn := hd (fun (X : World) (P : Nat → Prop) => (show VP P X none (pv ps) from fun k u hu => by rw [hps] at hu; simp [pv] at hu))
    clear h h123 hps hj
    subst hW1
    go_enter Tryd.func51, Tryd.ntmps51
    go_wp2_with fail
    refine HC1.out.mono ?_
    rintro e w2 ⟨rfl, kd0, rfl⟩
    go_wp2_with fail
    generalize hWj : World.drewN _ kd0 = Wj
    have HVj := hd (hWj ▸ HV1.out.drewN kd0)
    have HRj := hd (HJ.out ▸ hWj ▸ HR1.out.drewN kd0)
    have HOj := hd (hWj ▸ HO1.out.drewN kd0)
    have HVPj := hd (HVPn.out Wj (fun b => w.heap.size < b ∧ b < Wj.heap.size))
    clear hWj
    have hzj := HOj.out.size
    have hgj := HVj.out.lt
    by_cases h91 : atB s j = some 91
    · have HF := hd (HB.out.trans (show bodyP s.data.toList ps j = .ok (.mk false ps [] []) (j + 1) by unfold bodyP; rw [if_pos (show s.data.toList[j]? = some 91 from h91)]))
      have HN := hd (rnext_any R s j 91 91 rfl true (decide_eq_true h91) Wj HRj.out (by omega))
      have hjl := atB_lt h91
      clear h91
      refine HN.out.mono ?_
      rintro e w5 ⟨rfl, kd, rfl⟩
      have HV5 := hd (HVj.out.drewN kd)
      have HR5 := hd (HRj.out.drewN kd)
      obtain ⟨x0, x1, x2, x3⟩ := HV5.out.cells
      obtain ⟨f0, f1, f2, f3⟩ := HV5.out.frees
      obtain ⟨y0, y1, y2⟩ := HR5.out.cells
      go_wp2
      refine bodyPost_ret (v := .tuple #[.agg #[.bool false, .slice none 0 0, .slice none 0 0, .slice none 0 0], .int .i64 0]) (by simp [results, Tryd.results51, go_sem, x0, x1, x2, x3]) rfl ?_
      rw [HF.out]
      exact ⟨((HOj.out.drewN kd).set 1 _).far4 (Nat.le_refl _) _ _ _ _, (HR5.out.setz (j := j + 1) (by omega)).far4 hgR _ _ _ _, _, _, _, _, _, _, rfl, HNP.out.1, rfl, rfl, HNP.out.2.1, Nat.le_refl _, Nat.zero_le _, HNP.out.2.2,
        HVPj.out.off2 ((((Off2.refl R w.heap.size Wj).drewN kd).setR 1 _).set4 _ _ _ _) (fun b hb => ⟨hb.2, by omega, by omega⟩) (fun b hb => ⟨by omega, by simpa using hb.2⟩), fun k u hu => by simp [rv, NT.tx] at hu⟩
    · have HN := hd (rnext_any R s j 91 91 rfl false (decide_eq_false h91) Wj HRj.out (by omega))
      refine HN.out.mono ?_
      rintro e w5 ⟨rfl, kd, rfl⟩
      have HV5 := hd (HVj.out.drewN kd)
      have HR5 := hd (HRj.out.drewN kd)
      by_cases h34 : atB s j = some 34
      · have HN2 := hd (rnext_any R s j 34 34 rfl true (decide_eq_true h34) (Wj.drewN kd) HR5.out (by omega))
        go_wp2_with fail
        refine HN2.out.mono ?_
        rintro e w6 ⟨rfl, kd2, rfl⟩
        have HV6 := hd (HVj.out.drewN (kd + kd2))
        obtain ⟨x0, x1, x2, x3⟩ := HV6.out.cells
        obtain ⟨f0, f1, f2, f3⟩ := HV6.out.frees
        go_wp2_with fail
        generalize hW7 : World.setCell _ ⟨w.heap.size, 0, none⟩ _ = W7
        have HV7 := hd (hW7 ▸ HV6.out.set0 (.bool true))
        have HR7 := hd (hW7 ▸ (HRj.out.drewN (kd + kd2)).far (k := 0) hgR (.bool true))
        have HO7 := hd (hW7 ▸ (HOj.out.drewN (kd + kd2)).far (q := w.heap.size) (k := 0) (Nat.le_refl _) (.bool true))
        have HX7 := hd (hW7 ▸ ((Off2.refl R w.heap.size Wj).drewN (kd + kd2)).setG 0 (.bool true))
        have hz7 : W7.heap.size = Wj.heap.size := by rw [← hW7]; simp
        have HT := hd (text_any R s j W7 HR7.out h34 (by omega))
        obtain ⟨x, p, er, hu⟩ : ∃ x p er, unqS s.data.toList j = (x, p, er) := ⟨_, _, _, rfl⟩
        have HB2 := hd (HB.out.trans (show bodyP s.data.toList ps j = if er ≠ 0 then .bad (j + p.toNat) er else .ok (.mk true ps x []) (qEnd s.data.toList j) by
          unfold bodyP
          rw [if_neg (show ¬ s.data.toList[j]? = some 91 from h91), if_pos (show s.data.toList[j]? = some 34 from h34), hu]))
        have hql := qEnd_range (show s.data.toList[j]? = some 34 from h34)
        rw [data_size] at hql
        have HU := hd hu
        have HLX := hd (fun (h0 : er = 0) => unqS_len (s := s) h34 (x := x) (p := p) (by rw [← h0]; exact hu))
        clear hW7 x0 x1 x2 x3 f0 f1 f2 f3 hu h91 h34
        refine HT.out.mono ?_
        intro e w8 h8
        obtain ⟨ho8, h8a, h8b⟩ := h8
        rw [HU.out] at h8a h8b
        have HV8 := hd (HV7.out.off ho8 (by omega))
        have HO8 := hd (HO7.out.trans (ho8.less (by omega)))
        have HX8 := hd (HX7.out.off ho8)
        have hz8 := ho8.size
        obtain ⟨x0, x1, x2, x3⟩ := HV8.out.cells
        obtain ⟨f0, f1, f2, f3⟩ := HV8.out.frees
        by_cases he : er = 0
        · obtain ⟨hr8, v, rfl, hv8⟩ := h8b he
          obtain ⟨nt, hnt⟩ : ∃ nt, nt = x.length := ⟨_, rfl⟩
          obtain ⟨TA, tc, rfl, hxc, _, hvl, ho8'⟩ := hv8.open_at nt (by rw [rv_len, hnt])
          have HF := hd (HB2.out.trans (if_neg (by simp [he])))
          have hxl := HLX.out he
          have HR8 := hd hr8
          have HW8 := hd (own_vp1 ho8')
          clear he hr8 hv8 hvl h8a h8b ho8 ho8'
          have HNT := hd hnt
          clear hnt
          go_wp2
          refine bodyPost_ret (v := .tuple #[.agg #[.bool true, .slice none 0 0, .slice TA nt tc, .slice none 0 0], .int .i64 0]) (by simp [results, Tryd.results51, go_sem, x0, x1, x2, x3]) rfl ?_
          rw [HF.out]
          exact ⟨(HO8.out.far (Nat.le_refl _) _).far4 (Nat.le_refl _) _ _ _ _, (HR8.out.far hgR _).far4 hgR _ _ _ _, _, _, _, _, _, _, rfl, HNP.out.1, HNT.out, rfl, HNP.out.2.1, hxc, by have := HNT.out; omega, HNP.out.2.2,
            HVPj.out.off2 ((HX8.out.setG 2 _).set4 _ _ _ _) (fun b hb => ⟨hb.2, by omega, by omega⟩) (fun b hb => ⟨by omega, by have := hb.2; simp; omega⟩),
            HW8.out.off2 (((Off2.refl R w.heap.size w8).setG 2 _).set4 _ _ _ _) (fun b hb => ⟨hb.2, by omega, by omega⟩) (fun b hb => ⟨by omega, by simpa using hb.2⟩)⟩
        · obtain ⟨rfl, hr8⟩ := h8a he
          have HF := hd (HB2.out.trans (if_pos he))
          have hb : (er != 0) = true := by simpa using he
          have HR8 := hd hr8
          clear he hr8 h8a h8b ho8
          go_wp2
          refine bodyPost_ret (v := .tuple #[.agg #[.bool true, .slice none 0 0, .slice none 0 0, .slice none 0 0], .int .i64 er]) (by simp [results, Tryd.results51, go_sem, x0, x1, x2, x3]) rfl ?_
          rw [HF.out]
          exact ⟨(HO8.out.far (Nat.le_refl _) _).far4 (Nat.le_refl _) _ _ _ _, (HR8.out.far hgR _).far4 hgR _ _ _ _, _, _, _, _, _, _, _, _, _, _, rfl⟩
      · have HN2 := hd (rnext_any R s j 34 34 rfl false (decide_eq_false h34) (Wj.drewN kd) HR5.out (by omega))
        have HF := hd (HB.out.trans (show bodyP s.data.toList ps j = .bad j 11 by unfold bodyP; rw [if_neg (show ¬ s.data.toList[j]? = some 91 from h91), if_neg (show ¬ s.data.toList[j]? = some 34 from h34)]))
        clear h91 h34
        go_wp2_with fail
        refine HN2.out.mono ?_
        rintro e w6 ⟨rfl, kd2, rfl⟩
        have HV6 := hd (HVj.out.drewN (kd + kd2))
        obtain ⟨x0, x1, x2, x3⟩ := HV6.out.cells
        obtain ⟨f0, f1, f2, f3⟩ := HV6.out.frees
        go_wp2
        refine bodyPost_ret (v := .tuple #[.agg #[.bool false, .slice none 0 0, .slice none 0 0, .slice none 0 0], .int .i64 11]) (by simp [results, Tryd.results51, go_sem, x0, x1, x2, x3]) rfl ?_
        rw [HF.out]
        exact ⟨(HOj.out.drewN (kd + kd2)).far4 (Nat.le_refl _) _ _ _ _, (HRj.out.drewN (kd + kd2)).far4 hgR _ _ _ _, _, _, _, _, _, _, _, _, _, _, rfl⟩

end Go.Proofs.YtknkclbjocfhiaaDoor

namespace Go.Proofs.YtknkclbjocfhiaaDoor
open Go.RowKit
open Go.WideShapes (add_plain)

def flatK (us : List Value) : List Value := us.flatMap fun u => u.cells.toList
set_option maxRecDepth 4000 in
theorem flatK_append (us vs : List Value) : flatK (us ++ vs) = flatK us ++ flatK vs := by simp [flatK]
/-- An open node: its parts' addresses, its row of Kids, what that holds, and the tree so far. -/
structure Opn where
  PA : Option Addr
  np : Nat
  pc : Nat
  TA : Option Addr
  nt : Nat
  tc : Nat
  vK : Value
  us : List Value
  n : NT
def Opn.row4 (o : Opn) : List Value := [.bool o.n.lf, .slice o.PA o.np o.pc, .slice o.TA o.nt o.tc, o.vK]
def Opn.val (o : Opn) : Value := .agg #[.bool o.n.lf, .slice o.PA o.np o.pc, .slice o.TA o.nt o.tc, o.vK]
set_option maxRecDepth 4000 in
theorem flat_vals (L : List Opn) : flatK (L.map Opn.val) = L.flatMap Opn.row4 := by
  induction L with
  | nil => rfl
  | cons o r ih => rw [List.map_cons, List.flatMap_cons, ← ih]; rfl
set_option maxRecDepth 4000 in
theorem flat_len (L : List Opn) : (flatK (L.map Opn.val)).length = L.length * 4 := by
  rw [flat_vals]
  induction L with
  | nil => rfl
  | cons o r ih => rw [List.flatMap_cons, List.length_append, ih, List.length_cons]; simp [Opn.row4]; omega
structure OpnOk (Sp : Nat → Prop) (base d : Nat) (w : World) (o : Opn) : Prop where
  np : o.np = o.n.ps.length
  nt : o.nt = o.n.tx.length
  pc : o.np ≤ o.pc
  tc : o.nt ≤ o.tc
  ntl : o.nt ≤ 40000
  chk : chk o.n.ps = 0
  props : VP Sp w o.PA (pv o.n.ps)
  text : VP Sp w o.TA (rv o.n.tx)
  row : w.ownsRow base 26 4 o.vK o.n.ks.length (flatK o.us)
  len : o.us.length = o.n.ks.length
  kids : ∀ (j : Nat) (m : NT), o.n.ks[j]? = some m → ∃ u, o.us[j]? = some u ∧ TreeP Sp d w u m
set_option maxRecDepth 4000 in
theorem row_kept {w w' : World} {base n size : Nat} {t : TypeId} {v : Value} {xs : List Value} (h : w.ownsRow base t size v n xs) (hk : ∀ b, v.ownBlock = some b → w'.heap[b]? = w.heap[b]?) : w'.ownsRow base t size v n xs := by
  refine ⟨h.1, ?_⟩
  rcases h.2 with h4 | ⟨g, cap, cur, e2, hbg, hg, rest⟩
  · exact .inl h4
  · exact .inr ⟨g, cap, cur, e2, hbg, by rw [hk g (by rw [e2]; rfl)]; exact hg, rest⟩
set_option maxRecDepth 4000 in
theorem heap_pq {Sp : Nat → Prop} {w w' : World} (hk : ∀ b, Sp b → w'.heap[b]? = w.heap[b]?) : ∀ p : Addr, Sp p.block → w'.cell? p = w.cell? p ∧ w'.frozen? p = w.frozen? p := fun _ hp => ⟨World.cell?_of_block (hk _ hp), World.frozen?_of_block (hk _ hp)⟩
set_option maxRecDepth 4000 in
theorem OpnOk.keep {Sp Sq : Nat → Prop} {base d : Nat} {w w' : World} {o : Opn} (h : OpnOk Sp base d w o) (hq : ∀ b, Sp b → Sq b) (hk : ∀ b, Sp b ∨ o.vK.ownBlock = some b → w'.heap[b]? = w.heap[b]?) : OpnOk Sq base d w' o :=
  have hp := heap_pq fun b hb => hk b (.inl hb)
  ⟨h.np, h.nt, h.pc, h.tc, h.ntl, h.chk, h.props.keep hq hp, h.text.keep hq hp, row_kept h.row fun b hb => hk b (.inr hb), h.len, fun j m hm => by
    obtain ⟨u, h1, h2⟩ := h.kids j m hm
    exact ⟨u, h1, h2.keep hq hp⟩⟩
set_option maxRecDepth 4000 in
theorem tree_deep {P : Nat → Prop} {w : World} : ∀ {d d' : Nat} {v : Value} {n : NT}, d ≤ d' → TreeP P d w v n → TreeP P d' w v n
  | 0, _, _, _, _, h => h.elim
  | d + 1, 0, _, _, h, _ => absurd h (Nat.not_succ_le_zero _)
  | d + 1, d' + 1, _, _, hd, ⟨PA, pc, TA, tc, KA, kc, e, hp, ht, hf, hks⟩ => ⟨PA, pc, TA, tc, KA, kc, e, hp, ht, hf, fun k m hm => by
      obtain ⟨b, o, u, e1, hb, hn, hc, hz⟩ := hks k m hm
      exact ⟨b, o, u, e1, hb, tree_deep (Nat.le_of_succ_le_succ hd) hn, hc, hz⟩⟩
set_option maxRecDepth 4000 in
theorem OpnOk.deep {Sp : Nat → Prop} {base d d' : Nat} {w : World} {o : Opn} (h : OpnOk Sp base d w o) (hd : d ≤ d') : OpnOk Sp base d' w o :=
  ⟨h.np, h.nt, h.pc, h.tc, h.ntl, h.chk, h.props, h.text, h.row, h.len, fun j m hm => by
    obtain ⟨u, h1, h2⟩ := h.kids j m hm
    exact ⟨u, h1, tree_deep hd h2⟩⟩
set_option maxRecDepth 4000 in
/-- A node that has ended is a tree. -/
theorem cells4_of (us : List Value) : ∀ (j : Nat) (u c0 c1 c2 c3 : Value), (∀ x ∈ us, x.cells.size = 4) → us[j]? = some u → u = .agg #[c0, c1, c2, c3] → ∀ (i : Nat) (c : Value), [c0, c1, c2, c3][i]? = some c → (flatK us)[j * 4 + i]? = some c := by
  induction us with
  | nil => intro j u _ _ _ _ _ h; simp at h
  | cons x r ih =>
    intro j u c0 c1 c2 c3 h4 hu e i c hi
    have hx := h4 x (List.mem_cons_self ..)
    have hx' : x.cells.toList.length = 4 := by simpa using hx
    show (x.cells.toList ++ flatK r)[j * 4 + i]? = some c
    cases j with
    | zero =>
      simp at hu
      subst hu e
      have hi4 : i < 4 := (List.getElem?_eq_some_iff.1 hi).1
      rw [Nat.zero_mul, Nat.zero_add, List.getElem?_append_left (by rw [hx']; exact hi4)]
      exact hi
    | succ j =>
      rw [List.getElem?_append_right (by rw [hx']; omega), hx', show (j + 1) * 4 + i - 4 = j * 4 + i by omega]
      exact ih j u c0 c1 c2 c3 (fun y hy => h4 y (List.mem_cons_of_mem _ hy)) (by simpa using hu) e i c hi
set_option maxRecDepth 4000 in
theorem tree_four {P : Nat → Prop} {d : Nat} {w : World} {v : Value} {n : NT} (h : TreeP P d w v n) : ∃ c0 c1 c2 c3, v = .agg #[c0, c1, c2, c3] := by
  cases d with
  | zero => exact h.elim
  | succ d => obtain ⟨PA, pc, TA, tc, KA, kc, e, _⟩ := h; exact ⟨_, _, _, _, e⟩
set_option maxRecDepth 4000 in
theorem OpnOk.tree {Sp Sq : Nat → Prop} {base d : Nat} {w : World} {o : Opn} (h : OpnOk Sp base d w o) (hks : o.n.ks.length ≤ 40000) (hq : ∀ b, Sp b → Sq b) (ho : ∀ b, o.vK.ownBlock = some b → Sq b) : TreeP Sq (d + 1) w o.val o.n := by
  have hrow := h.row
  obtain ⟨KA, kc, e, hnc, _, hfree⟩ := rowFree hrow
  have h16 := chk_len h.chk
  have hsame : ∀ p : Addr, Sp p.block → w.cell? p = w.cell? p ∧ w.frozen? p = w.frozen? p := fun _ _ => ⟨rfl, rfl⟩
  have h4 : ∀ x ∈ o.us, x.cells.size = 4 := fun x hx => by
    obtain ⟨j, hj, rfl⟩ := List.mem_iff_getElem.1 hx
    obtain ⟨u, hu, ht⟩ := h.kids j _ (List.getElem?_eq_getElem (by rw [← h.len]; exact hj))
    rw [List.getElem?_eq_getElem hj] at hu
    injection hu with hu
    obtain ⟨c0, c1, c2, c3, e⟩ := tree_four ht
    rw [hu, e]; rfl
  have hw : Wide o.n.ps := ⟨by omega, fun p hp => by
    obtain ⟨a, b⟩ := chk_mem h.chk p hp
    have := (keyB_parts a).2.1
    have := (valB_parts b).1
    omega⟩
  refine ⟨o.PA, o.pc, o.TA, o.tc, KA, kc, by unfold Opn.val; rw [h.np, h.nt, e], h.props.keep hq hsame, h.text.keep hq hsame, ⟨hw, by omega, by have := h.ntl; have := h.nt; omega, by omega, by have := h.pc; have := h.np; omega, by have := h.tc; have := h.nt; omega, hnc⟩, fun k m hm => ?_⟩
  obtain ⟨u, hu, ht⟩ := h.kids k m hm
  obtain ⟨c0, c1, c2, c3, eu⟩ := tree_four ht
  have hc := fun i c hi => hfree (k * 4 + i) c (cells4_of o.us k u c0 c1 c2 c3 h4 hu eu i c hi)
  obtain ⟨g, hg, _, _, _⟩ := hc 0 _ rfl
  subst hg
  have hc' : ∀ i c, [c0, c1, c2, c3][i]? = some c → Free w g (0 + k * 4 + i) c := fun i c hi => by
    obtain ⟨g', e', _, _, h5⟩ := hc i c hi
    injection e' with e'
    injection e' with e'
    subst e'
    rw [Nat.zero_add]; exact h5
  exact ⟨g, 0, u, rfl, ho g (by rw [e]; rfl), ht.keep hq hsame, ⟨c0, c1, c2, c3, eu, (hc' 0 _ rfl).1, (hc' 1 _ rfl).1, (hc' 2 _ rfl).1, (hc' 3 _ rfl).1⟩, (hc' 0 _ rfl).2⟩

def tot : List Opn → Nat
  | [] => 0
  | o :: r => 1 + o.n.ks.length + tot r
set_option maxRecDepth 4000 in
theorem tot_append (a b : List Opn) : tot (a ++ b) = tot a + tot b := by
  induction a with
  | nil => simp [tot]
  | cons o r ih => simp only [List.cons_append, tot, ih]; omega
/-- All open nodes, the outermost first; X: a block of the call's own that is none of theirs. -/
structure Stk (Sp : Nat → Prop) (base d : Nat) (w : World) (v : Value) (L : List Opn) (X : Nat) : Prop where
  row : w.ownsRow base 26 4 v L.length (flatK (L.map Opn.val))
  ok : ∀ o ∈ L, OpnOk Sp base d w o
  sp : ∀ b, Sp b → base ≤ b ∧ b < w.heap.size ∧ b ≠ X ∧ v.ownBlock ≠ some b ∧ ∀ o ∈ L, o.vK.ownBlock ≠ some b
  vX : v.ownBlock ≠ some X
  kX : ∀ o ∈ L, o.vK.ownBlock ≠ some X ∧ ∀ b, o.vK.ownBlock = some b → v.ownBlock ≠ some b
  dist : L.Pairwise fun o p => ∀ b, o.vK.ownBlock = some b → p.vK.ownBlock ≠ some b
section
variable {Sp Sq : Nat → Prop} {base d X : Nat} {w w' : World} {v : Value} {L : List Opn} {o p : Opn}
set_option maxRecDepth 4000 in
theorem Stk.nil (base d X : Nat) (w : World) : Stk (fun _ => False) base d w (.slice none 0 0) [] X :=
  ⟨World.ownsRow_nil _ _ _ _, fun o ho => by simp at ho, fun b hb => hb.elim, by simp [Value.ownBlock], fun o ho => by simp at ho, List.Pairwise.nil⟩
set_option maxRecDepth 4000 in
theorem Stk.own_lt (h : Stk Sp base d w v L X) {b : Nat} (hb : v.ownBlock = some b) : base ≤ b ∧ b < w.heap.size := h.row.lt b hb
set_option maxRecDepth 4000 in
theorem Stk.kid_lt (h : Stk Sp base d w v L X) (ho : o ∈ L) {b : Nat} (hb : o.vK.ownBlock = some b) : base ≤ b ∧ b < w.heap.size := (h.ok o ho).row.lt b hb
set_option maxRecDepth 4000 in
/-- A world in which all of theirs is as it was. -/
theorem Stk.keep (h : Stk Sp base d w v L X) (hs : w.heap.size ≤ w'.heap.size) (hk : ∀ b, base ≤ b → b < w.heap.size → b ≠ X → w'.heap[b]? = w.heap[b]?) : Stk Sp base d w' v L X :=
  ⟨row_kept h.row fun b hb => hk b (h.own_lt hb).1 (h.own_lt hb).2 (fun e => h.vX (by rw [hb, e])),
    fun o ho => (h.ok o ho).keep (fun _ hb => hb) fun b hb => by
      rcases hb with hb | hb
      · obtain ⟨h1, h2, h3, _⟩ := h.sp b hb
        exact hk b h1 h2 h3
      · exact hk b (h.kid_lt ho hb).1 (h.kid_lt ho hb).2 (fun e => (h.kX o ho).1 (by rw [hb, e])),
    fun b hb => by obtain ⟨h1, h2, h3⟩ := h.sp b hb; exact ⟨h1, by omega, h3⟩, h.vX, h.kX, h.dist⟩
set_option maxRecDepth 4000 in
/-- New blocks, another X. -/
theorem Stk.fresh (h : Stk Sp base d w v L X) (hb : base ≤ w.heap.size) {Y : Nat} (hY : w'.heap.size ≤ Y) (hs : w.heap.size ≤ w'.heap.size) (hk : ∀ b, base ≤ b → b < w.heap.size → b ≠ X → w'.heap[b]? = w.heap[b]?) :
    Stk (fun b => Sp b ∨ (w.heap.size ≤ b ∧ b < w'.heap.size)) base d w' v L Y := by
  have k := h.keep hs hk
  refine ⟨k.row, fun o ho => (k.ok o ho).keep (fun _ h => .inl h) fun _ _ => rfl, fun b hb => ?_, fun e => by have := (h.own_lt e).2; omega, fun o ho => ⟨fun e => by have := (h.kid_lt ho e).2; omega, (k.kX o ho).2⟩, k.dist⟩
  rcases hb with hb | hb
  · obtain ⟨h1, h2, h3, h4⟩ := h.sp b hb
    exact ⟨h1, by omega, by omega, h4⟩
  · exact ⟨by omega, hb.2, by omega, fun e => by have := (h.own_lt e).2; omega, fun o ho e => by have := (h.kid_lt ho e).2; omega⟩
set_option maxRecDepth 4000 in
theorem Stk.deep {d' : Nat} (h : Stk Sp base d w v L X) (hd : d ≤ d') : Stk Sp base d' w v L X := ⟨h.row, fun o ho => (h.ok o ho).deep hd, h.sp, h.vX, h.kX, h.dist⟩
set_option maxRecDepth 4000 in
/-- One more, without Kids. -/
theorem Stk.push {v' : Value} {W : World} (h : Stk Sp base d w v L X) (hX : X < w.heap.size) (ho : OpnOk Sp base d w o) (hvK : o.vK = .slice none 0 0) (hW : ∀ b, b < w.heap.size → W.heap[b]? = w.heap[b]?) (hWs : w.heap.size ≤ W.heap.size) (hown : w'.ownsRow base 26 4 v' (L.length + 1) (flatK (L.map Opn.val) ++ o.row4)) (hgrow : W.grownBy w' v.ownBlock)
    (hat : v'.ownBlock = v.ownBlock ∨ ∃ g, v'.ownBlock = some g ∧ w.heap.size ≤ g) : Stk Sp base d w' v' (L ++ [o]) X := by
  have hk : ∀ b, b < w.heap.size → v.ownBlock ≠ some b → w'.heap[b]? = w.heap[b]? := fun b h1 h2 => (hgrow.block b (by omega) (fun e => h2 e.symm)).trans (hW b h1)
  have hsz := hgrow.size
  have hv : ∀ b, b < w.heap.size → v.ownBlock ≠ some b → v'.ownBlock ≠ some b := fun b h1 h2 => by
    rcases hat with e | ⟨g, e, hg⟩
    · rw [e]; exact h2
    · rw [e]; intro e2; injection e2 with e2; omega
  have hno : ∀ b, o.vK.ownBlock ≠ some b := fun b e => by rw [hvK] at e; cases e
  refine ⟨?_, fun p hp => ?_, fun b hb => ?_, hv X hX h.vX, fun p hp => ?_, ?_⟩
  · rw [List.length_append, List.map_append, flatK_append, show flatK (List.map Opn.val [o]) = o.row4 from by rw [flat_vals]; simp]; exact hown
  · rcases List.mem_append.1 hp with hp | hp
    · refine (h.ok p hp).keep (fun _ h => h) fun b hb => ?_
      rcases hb with hb | hb
      · obtain ⟨_, h2, _, h4, _⟩ := h.sp b hb
        exact hk b h2 h4
      · exact hk b (h.kid_lt hp hb).2 ((h.kX p hp).2 b hb)
    · rw [List.mem_singleton] at hp
      subst hp
      refine ho.keep (fun _ h => h) fun b hb => ?_
      rcases hb with hb | hb
      · obtain ⟨_, h2, _, h4, _⟩ := h.sp b hb
        exact hk b h2 h4
      · exact absurd hb (hno b)
  · obtain ⟨h1, h2, h3, h4, h5⟩ := h.sp b hb
    refine ⟨h1, by omega, h3, hv b h2 h4, fun p hp => ?_⟩
    rcases List.mem_append.1 hp with hp | hp
    · exact h5 p hp
    · rw [List.mem_singleton] at hp; subst hp; exact hno b
  · rcases List.mem_append.1 hp with hp | hp
    · exact ⟨(h.kX p hp).1, fun b hb => hv b (h.kid_lt hp hb).2 ((h.kX p hp).2 b hb)⟩
    · rw [List.mem_singleton] at hp; subst hp; exact ⟨hno X, fun b hb => absurd hb (hno b)⟩
  · rw [List.pairwise_append]
    exact ⟨h.dist, List.pairwise_singleton _ _, fun p _ q hq b _ => by rw [List.mem_singleton] at hq; subst hq; exact hno b⟩
set_option maxRecDepth 4000 in
/-- The last one leaves. -/
theorem Stk.pop {A : Option Addr} {c m : Nat} (h : Stk Sp base d w (.slice A m c) (L ++ [o]) X) : Stk Sp base d w (.slice A L.length c) L X ∧ OpnOk Sp base d w o ∧ (∀ b, o.vK.ownBlock = some b → base ≤ b ∧ b < w.heap.size ∧ b ≠ X ∧ (Value.slice A L.length c).ownBlock ≠ some b ∧ ∀ p ∈ L, p.vK.ownBlock ≠ some b) := by
  have e : ∀ k, (Value.slice A k c).ownBlock = (Value.slice A m c).ownBlock := fun k => by cases A <;> rfl
  have hm : ∀ p, p ∈ L → p ∈ L ++ [o] := fun p hp => List.mem_append.2 (.inl hp)
  have ho : o ∈ L ++ [o] := List.mem_append.2 (.inr (List.mem_singleton.2 rfl))
  have hpw := List.pairwise_append.1 h.dist
  refine ⟨⟨?_, fun p hp => h.ok p (hm p hp), fun b hb => ?_, by rw [e]; exact h.vX, fun p hp => by rw [e]; exact h.kX p (hm p hp), hpw.1⟩, h.ok o ho, fun b hb => ⟨(h.kid_lt ho hb).1, (h.kid_lt ho hb).2, fun e2 => (h.kX o ho).1 (by rw [hb, e2]), by rw [e]; exact (h.kX o ho).2 b hb, fun p hp e2 => hpw.2.2 p hp o (List.mem_singleton.2 rfl) b e2 hb⟩⟩
  · have hr := h.row
    rw [List.length_append, List.length_singleton] at hr
    refine ⟨flat_len L, ?_⟩
    rcases hr.2 with ⟨_, e0⟩ | ⟨g, cap, cur, e1, hB, hg, hc, hmx, hs, hx⟩
    · simp at e0
    · injection e1 with e1 e2 e3
      refine .inr ⟨g, cap, cur, by rw [e1, e3], hB, hg, by omega, hmx, hs, ?_⟩
      have h2 := congrArg (List.take (L.length * 4)) hx
      rw [List.take_take, show min (L.length * 4) ((L.length + 1) * 4) = L.length * 4 by omega] at h2
      rw [h2, List.map_append, flatK_append]
      exact List.take_left' (flat_len L)
  · obtain ⟨h1, h2, h3, h4, h5⟩ := h.sp b hb
    exact ⟨h1, h2, h3, by rw [e]; exact h4, fun p hp => h5 p (hm p hp)⟩
/-- The one that left becomes a kid of the last one. -/
def Opn.with1 (p : Opn) (vK : Value) (u : Value) (m : NT) : Opn := { p with vK := vK, us := p.us ++ [u], n := addK p.n m }
set_option maxRecDepth 4000 in
theorem Stk.kid {vK' : Value} (h : Stk Sp base d w v (L ++ [p]) X) (hX : X < w.heap.size) (ho : OpnOk Sp base d w o) (hob : ∀ b, o.vK.ownBlock = some b → base ≤ b ∧ b < w.heap.size ∧ b ≠ X ∧ v.ownBlock ≠ some b ∧ ∀ q ∈ L ++ [p], q.vK.ownBlock ≠ some b) (hks : o.n.ks.length ≤ 40000) (hs : w.heap.size ≤ w'.heap.size)
    (hkid : w'.ownsRow base 26 4 vK' (p.n.ks.length + 1) (flatK p.us ++ o.row4))
    (hrow : w'.ownsRow base 26 4 v (L.length + 1) (flatK (L.map Opn.val) ++ [.bool p.n.lf, .slice p.PA p.np p.pc, .slice p.TA p.nt p.tc, vK']))
    (hk : ∀ b, b < w.heap.size → v.ownBlock ≠ some b → p.vK.ownBlock ≠ some b → w'.heap[b]? = w.heap[b]?)
    (hat : vK'.ownBlock = p.vK.ownBlock ∨ ∃ g, vK'.ownBlock = some g ∧ w.heap.size ≤ g) :
    Stk (fun b => Sp b ∨ o.vK.ownBlock = some b) base (d + 1) w' v (L ++ [p.with1 vK' o.val o.n]) X := by
  have hp : p ∈ L ++ [p] := List.mem_append.2 (.inr (List.mem_singleton.2 rfl))
  have hm : ∀ q, q ∈ L → q ∈ L ++ [p] := fun q hq => List.mem_append.2 (.inl hq)
  have hpw := List.pairwise_append.1 h.dist
  have hpd : ∀ q ∈ L, ∀ b, q.vK.ownBlock = some b → p.vK.ownBlock ≠ some b := fun q hq => hpw.2.2 q hq p (List.mem_singleton.2 rfl)
  have hkS : ∀ b, Sp b → w'.heap[b]? = w.heap[b]? := fun b hb => by
    obtain ⟨_, h2, _, h4, h5⟩ := h.sp b hb
    exact hk b h2 h4 (h5 p hp)
  have hkO : ∀ b, o.vK.ownBlock = some b → w'.heap[b]? = w.heap[b]? := fun b hb => by
    obtain ⟨_, h2, _, h4, h5⟩ := hob b hb
    exact hk b h2 h4 (h5 p hp)
  have hvn : ∀ b, b < w.heap.size → p.vK.ownBlock ≠ some b → vK'.ownBlock ≠ some b := fun b h1 h2 => by
    rcases hat with e | ⟨g, e, hg⟩
    · rw [e]; exact h2
    · rw [e]; intro e2; injection e2 with e2; omega
  refine ⟨?_, fun q hq => ?_, fun b hb => ?_, h.vX, fun q hq => ?_, ?_⟩
  · rw [List.length_append, List.map_append, flatK_append, show flatK (List.map Opn.val [p.with1 vK' o.val o.n]) = [.bool p.n.lf, .slice p.PA p.np p.pc, .slice p.TA p.nt p.tc, vK'] from by rw [flat_vals]; simp [Opn.row4, Opn.with1, addK, NT.lf]]
    exact hrow
  · rcases List.mem_append.1 hq with hq | hq
    · refine ((h.ok q (hm q hq)).deep (Nat.le_succ d)).keep (fun _ h => .inl h) fun b hb => ?_
      rcases hb with hb | hb
      · exact hkS b hb
      · exact hk b (h.kid_lt (hm q hq) hb).2 ((h.kX q (hm q hq)).2 b hb) (hpd q hq b hb)
    · rw [List.mem_singleton] at hq
      subst hq
      have hpo := h.ok p hp
      have hpq := heap_pq hkS
      have eks : (p.with1 vK' o.val o.n).n.ks = p.n.ks ++ [o.n] := by simp [Opn.with1, addK, NT.ks]
      refine ⟨hpo.np, hpo.nt, hpo.pc, hpo.tc, hpo.ntl, hpo.chk, hpo.props.keep (fun _ h => .inl h) hpq, hpo.text.keep (fun _ h => .inl h) hpq, ?_, ?_, fun j m hj => ?_⟩
      · rw [eks, List.length_append, List.length_singleton]
        show w'.ownsRow base 26 4 vK' _ (flatK (p.us ++ [o.val]))
        rw [flatK_append]
        have : flatK [o.val] = o.row4 := by simp [flatK, Opn.val, Opn.row4, Value.cells]
        rw [this]; exact hkid
      · rw [eks, List.length_append, List.length_singleton]
        show (p.us ++ [o.val]).length = _
        rw [List.length_append, hpo.len]; rfl
      · rw [eks] at hj
        show ∃ u, (p.us ++ [o.val])[j]? = some u ∧ _
        rcases Nat.lt_or_ge j p.n.ks.length with hjk | hjk
        · rw [List.getElem?_append_left hjk] at hj
          obtain ⟨u, hu, ht⟩ := hpo.kids j m hj
          exact ⟨u, by rw [List.getElem?_append_left (by rw [hpo.len]; exact hjk)]; exact hu, tree_deep (Nat.le_succ d) (ht.keep (fun _ h => .inl h) hpq)⟩
        · rw [List.getElem?_append_right hjk] at hj
          have hj0 : j - p.n.ks.length = 0 := by
            have := (List.getElem?_eq_some_iff.1 hj).1
            simp at this; omega
          rw [hj0] at hj
          simp only [List.getElem?_cons_zero, Option.some.injEq] at hj
          subst hj
          refine ⟨o.val, by rw [List.getElem?_append_right (by rw [hpo.len]; exact hjk), hpo.len, hj0]; rfl, ?_⟩
          refine (ho.tree (Sq := fun b => Sp b ∨ o.vK.ownBlock = some b) hks (fun _ h => .inl h) (fun _ h => .inr h)).keep (fun _ h => h) (heap_pq fun b hb => ?_)
          rcases hb with hb | hb
          · exact hkS b hb
          · exact hkO b hb
  · rcases hb with hb | hb
    · obtain ⟨h1, h2, h3, h4, h5⟩ := h.sp b hb
      refine ⟨h1, by omega, h3, h4, fun q hq => ?_⟩
      rcases List.mem_append.1 hq with hq | hq
      · exact h5 q (hm q hq)
      · rw [List.mem_singleton] at hq; subst hq; exact hvn b h2 (h5 p hp)
    · obtain ⟨h1, h2, h3, h4, h5⟩ := hob b hb
      refine ⟨h1, by omega, h3, h4, fun q hq => ?_⟩
      rcases List.mem_append.1 hq with hq | hq
      · exact h5 q (hm q hq)
      · rw [List.mem_singleton] at hq; subst hq; exact hvn b h2 (h5 p hp)
  · rcases List.mem_append.1 hq with hq | hq
    · exact h.kX q (hm q hq)
    · rw [List.mem_singleton] at hq
      subst hq
      refine ⟨hvn X hX (h.kX p hp).1, fun b hb => ?_⟩
      show v.ownBlock ≠ some b
      have hb : vK'.ownBlock = some b := hb
      rcases hat with e | ⟨g, e, hg⟩
      · rw [e] at hb; exact (h.kX p hp).2 b hb
      · rw [e] at hb
        injection hb with hb
        intro e2
        have := (h.own_lt e2).2
        omega
  · rw [List.pairwise_append]
    refine ⟨hpw.1, List.pairwise_singleton _ _, fun q hq r hr b hb => ?_⟩
    rw [List.mem_singleton] at hr
    subst hr
    exact hvn b (h.kid_lt (hm q hq) hb).2 (hpd q hq b hb)
end
/-- Four cells stored at a row's end, and one. -/
def set4At (w : World) (g q : Nat) (a b c d : Value) : World := (((w.setCell ⟨g, q, none⟩ a).setCell ⟨g, q + 1, none⟩ b).setCell ⟨g, q + 2, none⟩ c).setCell ⟨g, q + 3, none⟩ d
set_option maxRecDepth 4000 in
theorem store4 {w : World} {base n m c g : Nat} {t : TypeId} {xs : List Value} {z0 z1 z2 z3 a b x d : Value} (h : w.ownsRow base t 4 (.slice (some ⟨g, 0, none⟩) m c) m (xs ++ [z0, z1, z2, z3])) (hl : xs.length = n * 4) :
    (set4At w g (n * 4) a b x d).ownsRow base t 4 (.slice (some ⟨g, 0, none⟩) m c) m (xs ++ [a, b, x, d]) := by
  have h1 := (h.stored (n * 4) a).1
  have h2 := (h1.stored (n * 4 + 1) b).1
  have h3 := (h2.stored (n * 4 + 2) x).1
  have h4 := (h3.stored (n * 4 + 3) d).1
  have e : ((((xs ++ [z0, z1, z2, z3]).set (n * 4) a).set (n * 4 + 1) b).set (n * 4 + 2) x).set (n * 4 + 3) d = xs ++ [a, b, x, d] := by
    rw [← hl]
    simp [List.set_append_right]
  rw [e] at h4
  exact h4
set_option maxRecDepth 4000 in
theorem store1 {w : World} {base n m c g : Nat} {t : TypeId} {xs : List Value} {z0 z1 z2 z3 x : Value} (h : w.ownsRow base t 4 (.slice (some ⟨g, 0, none⟩) m c) m (xs ++ [z0, z1, z2, z3])) (hl : xs.length = n * 4) :
    (w.setCell ⟨g, n * 4 + 3, none⟩ x).ownsRow base t 4 (.slice (some ⟨g, 0, none⟩) m c) m (xs ++ [z0, z1, z2, x]) := by
  have h1 := (h.stored (n * 4 + 3) x).1
  have e : (xs ++ [z0, z1, z2, z3]).set (n * 4 + 3) x = xs ++ [z0, z1, z2, x] := by
    rw [← hl]
    simp [List.set_append_right]
  rw [e] at h1
  exact h1
set_option maxRecDepth 4000 in
theorem set4_far {w : World} {g q k : Nat} {a b c d : Value} (hk : k ≠ g) : (set4At w g q a b c d).heap[k]? = w.heap[k]? := by
  unfold set4At
  rw [Below.heap_setCell _ _ _ _ (show k ≠ g from hk), Below.heap_setCell _ _ _ _ (show k ≠ g from hk), Below.heap_setCell _ _ _ _ (show k ≠ g from hk), Below.heap_setCell _ _ _ _ (show k ≠ g from hk)]
set_option maxRecDepth 4000 in
theorem set4_sz {w : World} {g q : Nat} {a b c d : Value} : (set4At w g q a b c d).heap.size = w.heap.size := by unfold set4At; simp

end Go.Proofs.YtknkclbjocfhiaaDoor

namespace Go.Proofs.YtknkclbjocfhiaaDoor
open Go.RowKit

theorem set4_env (w : World) (g q : Nat) (a b c d : Value) : (set4At w g q a b c d).os = w.os ∧ (set4At w g q a b c d).tape = w.tape ∧ (set4At w g q a b c d).output = w.output := ⟨rfl, rfl, rfl⟩
set_option maxRecDepth 4000 in
theorem setC_env (w : World) (p : Addr) (u : Value) : (w.setCell p u).os = w.os ∧ (w.setCell p u).tape = w.tape ∧ (w.setCell p u).output = w.output := ⟨rfl, rfl, rfl⟩
set_option maxRecDepth 4000 in
set_option maxHeartbeats 1000000 in
theorem kid_fin {Sp : Nat → Prop} {base d g5 gv gk c ck nk : Nat} {Ws w1 w2 W4 : World} {L1 : List Opn} {o p : Opn} {tmp : Obj} {z0 z1 z2 z3 a b x y : Value}
    (hst : Stk Sp base d Ws (.slice (some ⟨gv, 0, none⟩) (L1.length + 1) c) (L1 ++ [p]) g5) (ho : OpnOk Sp base d Ws o)
    (hob : ∀ b, o.vK.ownBlock = some b → base ≤ b ∧ b < Ws.heap.size ∧ b ≠ g5 ∧ (Value.slice (some ⟨gv, 0, none⟩) (L1.length + 1) c).ownBlock ≠ some b ∧ ∀ q ∈ L1 ++ [p], q.vK.ownBlock ≠ some b)
    (hks : o.n.ks.length ≤ 40000) (hg5 : g5 < Ws.heap.size) (hrow4 : o.row4 = [a, b, x, y])
    (hw1 : ∀ k, k < Ws.heap.size → w1.heap[k]? = Ws.heap[k]?) (hws : Ws.heap.size ≤ w1.heap.size) (hnk : nk = p.n.ks.length)
    (hown : w2.ownsRow base 26 4 (.slice (some ⟨gk, 0, none⟩) (nk + 1) ck) (nk + 1) (flatK p.us ++ [z0, z1, z2, z3])) (hgrow : (w1.alloc tmp).grownBy w2 p.vK.ownBlock)
    (hat : (Value.slice (some ⟨gk, 0, none⟩) (nk + 1) ck).ownBlock = p.vK.ownBlock ∨ ∃ g, (Value.slice (some ⟨gk, 0, none⟩) (nk + 1) ck).ownBlock = some g ∧ w1.heap.size + 1 ≤ g)
    (h4 : W4 = (set4At w2 gk (nk * 4) a b x y).setCell ⟨gv, L1.length * 4 + 3, none⟩ (.slice (some ⟨gk, 0, none⟩) (nk + 1) ck) ∨ W4 = set4At (w2.setCell ⟨gv, L1.length * 4 + 3, none⟩ (.slice (some ⟨gk, 0, none⟩) (nk + 1) ck)) gk (nk * 4) a b x y) :
    Stk (fun b => Sp b ∨ o.vK.ownBlock = some b) base (d + 1) W4 (.slice (some ⟨gv, 0, none⟩) (L1.length + 1) c) (L1 ++ [p.with1 (.slice (some ⟨gk, 0, none⟩) (nk + 1) ck) o.val o.n]) g5 ∧
      (∀ b, b < Ws.heap.size → b ≠ gv → p.vK.ownBlock ≠ some b → W4.heap[b]? = Ws.heap[b]?) ∧ Ws.heap.size ≤ W4.heap.size ∧ W4.os = w1.os ∧ W4.tape = w1.tape ∧ W4.output = w1.output := by
  subst hnk
  have hp : p ∈ L1 ++ [p] := List.mem_append.2 (.inr (List.mem_singleton.2 rfl))
  have hgs := hgrow.size
  have hgvl : gv < Ws.heap.size := (hst.own_lt (b := gv) rfl).2
  have hgvp : p.vK.ownBlock ≠ some gv := fun e => (hst.kX p hp).2 gv e rfl
  have hgk : gk ≠ gv := by
    rintro rfl
    rcases hat with e | ⟨g, e, hg⟩
    · exact hgvp e.symm
    · injection e with e
      have e : gk = g := e
      omega
  have hk2 : ∀ k, k < Ws.heap.size → p.vK.ownBlock ≠ some k → w2.heap[k]? = Ws.heap[k]? := fun k h1 h2 =>
    (hgrow.block k (by simp; omega) (fun e => h2 e.symm)).trans ((Below.heap_alloc _ _ _ (by omega)).trans (hw1 k h1))
  have hgk2 : ∀ k, k < Ws.heap.size → p.vK.ownBlock ≠ some k → k ≠ gk := by
    rintro k h1 h2 rfl
    rcases hat with e | ⟨g, e, hg⟩
    · exact h2 e.symm
    · injection e with e
      have e : k = g := e
      omega
  have hr0 := hst.row
  rw [List.length_append, List.length_singleton, List.map_append, flatK_append, show flatK (List.map Opn.val [p]) = p.row4 from by rw [flat_vals]; simp] at hr0
  have hr2 : w2.ownsRow base 26 4 (.slice (some ⟨gv, 0, none⟩) (L1.length + 1) c) (L1.length + 1) (flatK (L1.map Opn.val) ++ p.row4) := row_kept hr0 fun b hb => by
    obtain rfl : gv = b := Option.some.inj hb
    exact hk2 gv hgvl hgvp
  have hlf := flat_len L1
  have hlp : (flatK p.us).length = p.n.ks.length * 4 := (hst.ok p hp).row.1
  have hsz : w2.heap.size ≥ Ws.heap.size := by simp at hgs; omega
  have fin : W4.heap.size = w2.heap.size ∧ (∀ k, k ≠ gv → k ≠ gk → W4.heap[k]? = w2.heap[k]?) ∧ W4.os = w2.os ∧ W4.tape = w2.tape ∧ W4.output = w2.output ∧
      W4.ownsRow base 26 4 (.slice (some ⟨gk, 0, none⟩) (p.n.ks.length + 1) ck) (p.n.ks.length + 1) (flatK p.us ++ o.row4) ∧
      W4.ownsRow base 26 4 (.slice (some ⟨gv, 0, none⟩) (L1.length + 1) c) (L1.length + 1) (flatK (L1.map Opn.val) ++ [.bool p.n.lf, .slice p.PA p.np p.pc, .slice p.TA p.nt p.tc, .slice (some ⟨gk, 0, none⟩) (p.n.ks.length + 1) ck]) := by
    rw [hrow4]
    rcases h4 with rfl | rfl
    · refine ⟨by simp [set4_sz], fun k h1 h2 => (Below.heap_setCell _ _ _ _ (show k ≠ gv from h1)).trans (set4_far h2), (setC_env _ _ _).1.trans (set4_env _ _ _ _ _ _ _).1, (setC_env _ _ _).2.1.trans (set4_env _ _ _ _ _ _ _).2.1, (setC_env _ _ _).2.2.trans (set4_env _ _ _ _ _ _ _).2.2, ?_, ?_⟩
      · exact ownsRow_setCell_other (store4 hown hlp) (a := ⟨gv, L1.length * 4 + 3, none⟩) (fun e => hgk (Option.some.inj e)) _
      · refine store1 (row_kept hr2 fun b hb => ?_) hlf
        obtain rfl : gv = b := Option.some.inj hb
        exact set4_far (Ne.symm hgk)
    · refine ⟨by simp [set4_sz], fun k h1 h2 => (set4_far h2).trans (Below.heap_setCell _ _ _ _ (show k ≠ gv from h1)), (set4_env _ _ _ _ _ _ _).1.trans (setC_env _ _ _).1, (set4_env _ _ _ _ _ _ _).2.1.trans (setC_env _ _ _).2.1, (set4_env _ _ _ _ _ _ _).2.2.trans (setC_env _ _ _).2.2, ?_, ?_⟩
      · exact store4 (ownsRow_setCell_other hown (a := ⟨gv, L1.length * 4 + 3, none⟩) (fun e => hgk (Option.some.inj e)) _) hlp
      · refine row_kept (store1 hr2 hlf) fun b hb => ?_
        obtain rfl : gv = b := Option.some.inj hb
        exact set4_far (Ne.symm hgk)
  obtain ⟨f1, f2, f3, f4, f5, f6, f7⟩ := fin
  have hkb : ∀ b, b < Ws.heap.size → b ≠ gv → p.vK.ownBlock ≠ some b → W4.heap[b]? = Ws.heap[b]? := fun b h1 h2 h3 => (f2 b h2 (hgk2 b h1 h3)).trans (hk2 b h1 h3)
  refine ⟨hst.kid hg5 ho hob hks (by omega) f6 f7 (fun b h1 h2 h3 => hkb b h1 (fun e => h2 (by rw [e]; rfl)) h3) ?_, hkb, by omega, f3.trans hgrow.os, f4.trans hgrow.tape, f5.trans hgrow.output⟩
  rcases hat with e | ⟨g, e, hg⟩
  · exact .inl e
  · exact .inr ⟨g, e, by omega⟩

end Go.Proofs.YtknkclbjocfhiaaDoor
