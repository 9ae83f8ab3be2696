/- A point's own copy; a range's points in order, the program's and the document's. -/
import Derived.Test.YtjolmnghoigggaaKCmp
import Derived.Test.YtjolmnghoigggaaIBase
import Derived.Test.YtjolmnghoigggaaTPths
import Derived.Lib.SliceRun
import Derived.Deep.RegionHeld3
namespace Go.Proofs.Ytjolmnghoigggaa
open Go.RowKit

/-- A new point. -/
def NewPt (w : World) (p : List Int × Int) (w' : World) (v : Value) : Prop := ∃ A c, v = .agg #[.slice A p.1.length c, .int .i64 p.2] ∧ OwnI w' w.heap.size (.slice A p.1.length c) p.1
def NewPtE (w : World) (p : List Int × Int) (e : Ending) (w' : World) : Prop := ∃ v, e = .returned v ∧ NewPt w p w' v ∧ Below w.heap.size w w'
set_option maxRecDepth 4000 in
theorem NewPt.open_ {w w' : World} {p : List Int × Int} {v : Value} (h : NewPt w p w' v) : ∃ A c, v = .agg #[.slice A p.1.length c, .int .i64 p.2] ∧ p.1.length ≤ c ∧ IL w' w'.heap.size A p.1 := by
  obtain ⟨A, c, e, h⟩ := h
  obtain ⟨A', c', e', h1, _, h2⟩ := h.open_
  injection e' with a1 _ a3
  subst a1 a3
  exact ⟨A, c, e, h1, h2⟩

/-! A block of two cells. -/
section
variable {w w' : World} {g : Nat} {a b x y : Value} {t : TypeId}
set_option maxRecDepth 4000 in
theorem blk2 (h : w.heap[g]? = some (.cells #[a, b] t (0, 0))) : w.cell? ⟨g, 0, none⟩ = some a ∧ w.cell? ⟨g, 1, none⟩ = some b ∧ w.frozen? ⟨g, 0, none⟩ = false ∧ w.frozen? ⟨g, 1, none⟩ = false := by
  refine ⟨?_, ?_, ?_, ?_⟩ <;> simp [World.cell?, World.frozen?, h]
set_option maxRecDepth 4000 in
theorem set_blk (w : World) (g : Nat) (t : TypeId) (cs : Array Value) (k : Nat) (x : Value) (h : w.heap[g]? = some (.cells cs t (0, 0))) : (w.setCell ⟨g, k, none⟩ x).heap[g]? = some (.cells (cs.setIfInBounds k x) t (0, 0)) := by
  have hlt := lt_of_block h
  have h' : w.heap[g] = .cells cs t (0, 0) := by simpa [Array.getElem?_eq_getElem hlt] using h
  show (w.heap.modify g _)[g]? = _
  rw [Array.getElem?_eq_getElem (by simpa using hlt), Array.getElem_modify_self, h']
  rfl
set_option maxRecDepth 4000 in
theorem blk2_0 (h : w.heap[g]? = some (.cells #[a, b] t (0, 0))) (x : Value) : (w.setCell ⟨g, 0, none⟩ x).heap[g]? = some (.cells #[x, b] t (0, 0)) := set_blk w g t _ 0 x h
set_option maxRecDepth 4000 in
theorem blk2_both (h : w.heap[g]? = some (.cells #[a, b] t (0, 0))) (x y : Value) : ((w.setCell ⟨g, 0, none⟩ x).setCell ⟨g, 1, none⟩ y).heap[g]? = some (.cells #[x, y] t (0, 0)) := set_blk _ g t _ 1 y (set_blk w g t _ 0 x h)
set_option maxRecDepth 4000 in
theorem blk_far {cs : Array Value} {g' k : Nat} (h : w.heap[g]? = some (.cells cs t (0, 0))) (hne : g ≠ g') (x : Value) : (w.setCell ⟨g', k, none⟩ x).heap[g]? = some (.cells cs t (0, 0)) := (Below.heap_setCell _ _ _ _ hne).trans h
end
set_option maxRecDepth 4000 in
theorem pt_new (w : World) (o o' : Obj) : ((w.alloc o).alloc o').heap[w.heap.size]? = some o ∧ ((w.alloc o).alloc o').heap[w.heap.size + 1]? = some o' := by
  refine ⟨?_, ?_⟩
  · rw [Below.heap_alloc _ _ _ (by simp)]; exact heap_alloc_new _ _
  · rw [← sz1 (w := w) (A := o)]; exact heap_alloc_new _ _

set_option maxRecDepth 4000 in
theorem made_none : madeCells #[Value.int .i64 0] 0 = #[] := by simp [madeCells, Array.range]
set_option maxRecDepth 4000 in
theorem clone_any (A : Option Addr) (l : List Int) (n c : Nat) (w : World) (hn : l.length = n) (hl : n ≤ 1000) (hp : IL w w.heap.size A l) :
    Calls Try.prog 59 #[.slice A n c] w (NewP w l) := by
  have HP := hd hp
  have HN := hd hn
  clear hp hn
  rcases A with _ | a
  · have hnil := fun W => Go.Lib.run_eql_slice_nil (P := Try.prog) W 27 3 none n c 0 0 Try.underlying27
    have HL := hd (show l = [] by
      rcases Classical.em (l = []) with h | h
      · exact h
      · obtain ⟨_, _, h, _⟩ := HP.out h; cases h)
    go_enter Try.func59, Try.ntmps59
    go_wp2
    go_ret
    exact ⟨_, rfl, by rw [HL.out]; exact OwnI.nil _ _, Below.refl _ _⟩
  · have hnil := fun W => Go.Lib.run_eql_slice_nil (P := Try.prog) W 27 3 (some a) n c 0 0 Try.underlying27
    go_enter Try.func59, Try.ntmps59
    have HO := hd (show OwnI (w.alloc (.cells #[] 3)) w.heap.size (.slice (some ⟨w.heap.size, 0, none⟩) 0 0) [] from made_none ▸ OwnI.made w w.heap.size 0 (by omega) (Nat.le_refl _))
    go_wp2_with (at_builtin; (refine wpList_append_L _ rfl (.tmp 5) (.tmp 6) rfl w.heap.size (.slice (some ⟨w.heap.size, 0, none⟩) 0 0) [] l rfl HO.out (some a) n c w.heap.size rfl HN.out (HP.out.below ((Below.refl _ _).alloc (Nat.le_refl _) _)) (by have := HN.out; simp; omega) (by simp) ?_; intro v' w1 ho1 hg1))
    go_ret
    exact ⟨v', rfl, by simpa using ho1, hg1.below _ _ (Nat.le_refl _) (by simp) ((Below.refl _ _).alloc (Nat.le_refl _) _)⟩

set_option maxRecDepth 4000 in
theorem OwnI.pt {w : World} {B g : Nat} {u a b x y : Value} {l : List Int} (h : OwnI w B u l) (hg : w.heap[g]? = some (.cells #[a, b] 29 (0, 0))) : OwnI (w.setCell ⟨g, 0, none⟩ x) B u l ∧ OwnI ((w.setCell ⟨g, 0, none⟩ x).setCell ⟨g, 1, none⟩ y) B u l :=
  ⟨h.set hg (by decide), (h.set hg (by decide)).set (blk2_0 hg x) (by decide)⟩

set_option maxRecDepth 4000 in
set_option maxHeartbeats 1000000 in
theorem fresh_pt (A : Option Addr) (p : List Int × Int) (n c : Nat) (w : World) (hn : p.1.length = n) (hl : n ≤ 1000) (hp : IL w w.heap.size A p.1) :
    Calls Try.prog 40 #[.agg #[.slice A n c, .int .i64 p.2]] w (NewPtE w p) := by
  obtain ⟨W0, hW⟩ : ∃ W0, W0 = (w.alloc (.cells #[.slice A n c, .int .i64 p.2] 29)).alloc (.cells #[.slice none 0 0, .int .i64 0] 29) := ⟨_, rfl⟩
  have hb0 : Below w.heap.size w W0 := hW ▸ below_mono2 (Below.refl _ _) (Nat.le_refl _)
  have e0 := pt_new w (Obj.cells #[Value.slice A n c, Value.int .i64 p.2] 29) (Obj.cells #[Value.slice none 0 0, Value.int .i64 0] 29)
  rw [← hW] at e0
  have HC := hd (clone_any A p.1 n c W0 hn hl (hp.later hb0))
  have HW := hd hW
  have HB0 := hd hb0
  have HX := hd e0.1
  have HY := hd e0.2
  obtain ⟨x0, x1, f0, f1⟩ := blk2 HX.out
  obtain ⟨y0, y1, g0, g1⟩ := blk2 HY.out
  clear hp hn hW hb0 e0
  go_enter Try.func40, Try.ntmps40
  go_wp2_with (go_at_call 59; rw [← HW.out]; refine HC.out.mono ?_; rintro e w1 ⟨v1, rfl, ho, hb⟩; have HX1 := hd (keepBlk HX.out hb); have HY1 := hd (keepBlk HY.out hb); clear x0 x1 f0 f1 y0 y1 g0 g1; obtain ⟨x0, x1, f0, f1⟩ := blk2 HX1.out; obtain ⟨y0, y1, g0, g1⟩ := blk2 HY1.out; obtain ⟨A1, c1, rfl, h1, h2, h3⟩ := ho.open_; have HB1 := hd hb; have HO := hd ho; clear hb h2 h3 ho)
  obtain ⟨V, hV⟩ : ∃ V, V = Value.slice A1 p.1.length c1 := ⟨_, rfl⟩
  have hX2 := blk2_0 HX1.out V
  have hY2 := blk_far (g' := w.heap.size) (k := 0) HY1.out (by omega) V
  have hY3 := blk2_both hY2 V (.int .i64 p.2)
  obtain ⟨z0, z1, _, _⟩ := blk2 hY3
  have ho := ((HO.out.set (k := 0) (x := V) HX1.out (by decide)).pt (x := V) (y := .int .i64 p.2) hY2).2
  rw [hV] at z0 z1 ho
  clear x0 x1 f0 f1 y0 y1 g0 g1
  refine bodyPost_ret (v := .agg #[.slice A1 p.1.length c1, .int .i64 p.2]) (by simp [results, Try.results40, go_sem, z0, z1]) rfl ⟨_, rfl, ⟨A1, c1, rfl, ho.weaken HB0.out.size⟩, ?_⟩
  exact (((HB0.out.trans (HB1.out.mono HB0.out.size)).setCell (Nat.le_refl _) _).setCell (by show _ ≤ w.heap.size + 1; omega) _).setCell (by show _ ≤ w.heap.size + 1; omega) _

set_option maxRecDepth 4000 in
set_option maxHeartbeats 1000000 in
theorem rcopy_pt (A : Option Addr) (p : List Int × Int) (n c : Nat) (w : World) (hn : p.1.length = n) (hl : n ≤ 1000) (hp : IL w w.heap.size A p.1) :
    Calls Try.prog 41 #[.agg #[.slice A n c, .int .i64 p.2]] w (NewPtE w p) := by
  obtain ⟨W0, hW⟩ : ∃ W0, W0 = (w.alloc (.cells #[.slice A n c, .int .i64 p.2] 29)).alloc (.cells #[.slice none 0 0, .int .i64 0] 29) := ⟨_, rfl⟩
  have hb0 : Below w.heap.size w W0 := hW ▸ below_mono2 (Below.refl _ _) (Nat.le_refl _)
  have e0 := pt_new w (Obj.cells #[Value.slice A n c, Value.int .i64 p.2] 29) (Obj.cells #[Value.slice none 0 0, Value.int .i64 0] 29)
  rw [← hW] at e0
  have HC := hd (icopy_any A p.1 n c W0.drew hn hl (hp.later (hb0.trans (below_drewN (Below.refl _ _) 1))))
  have HW := hd hW
  have HB0 := hd hb0
  have HX := hd e0.1
  have HY := hd e0.2
  obtain ⟨x0, x1, f0, f1⟩ := blk2 HX.out
  obtain ⟨y0, y1, g0, g1⟩ := blk2 HY.out
  have HSa := hd (show W0.drew.cell? ⟨w.heap.size, 0, none⟩ = some (.slice A n c) ∧ W0.drew.cell? ⟨w.heap.size, 1, none⟩ = some (.int .i64 p.2) from ⟨x0, x1⟩)
  clear hp hn hW hb0 e0
  go_enter Try.func41, Try.ntmps41
  go_wp2
  rw [← HW.out]
  go_region_held3 (fun W => W.cell? ⟨w.heap.size, 0, none⟩ = some (.slice A n c) ∧ W.cell? ⟨w.heap.size, 1, none⟩ = some (.int .i64 p.2))
    (first
      | (with_reducible exact HS3.out)
      | (with_reducible exact HS2.out)
      | (with_reducible exact HSa.out))
    (first
      | (go_at_call 60; refine HC.out.mono ?_; rintro e w1 ⟨v1, rfl, ho, hb⟩; have hb' : Below W0.heap.size W0 w1 := (Below.refl _ _).drew.trans hb; have HX1 := hd (keepBlk HX.out hb'); have HY1 := hd (keepBlk HY.out hb'); clear x0 x1 f0 f1 y0 y1 g0 g1; obtain ⟨x0, x1, f0, f1⟩ := blk2 HX1.out; obtain ⟨y0, y1, g0, g1⟩ := blk2 HY1.out; obtain ⟨A1, c1, rfl, h1, h2, h3⟩ := ho.open_; have HS2 := hd (And.intro x0 x1); have HX2 := hd (blk2 (blk_far (k := 1) (blk_far (k := 0) HX1.out (Nat.ne_of_lt (Nat.lt_succ_self _)) (.slice A1 p.1.length c1)) (Nat.ne_of_lt (Nat.lt_succ_self _)) (.int .i64 p.2))); have HS3 := hd (And.intro HX2.out.1 HX2.out.2.1); have HB1 := hd hb'; have HO := hd ho; clear hb hb' h2 h3 ho))
  have hY3 := blk2_both HY1.out (.slice A1 p.1.length c1) (.int .i64 p.2)
  obtain ⟨z0, z1, _, _⟩ := blk2 hY3
  have ho := (HO.out.pt (x := .slice A1 p.1.length c1) (y := .int .i64 p.2) HY1.out).2
  clear x0 x1 f0 f1 y0 y1 g0 g1
  go_wp2
  refine bodyPost_ret (v := .agg #[.slice A1 p.1.length c1, .int .i64 p.2]) (by simp [results, Try.results41, go_sem, z0, z1]) rfl ⟨_, rfl, ⟨A1, c1, rfl, ho.weaken HB0.out.size⟩, ?_⟩
  exact ((HB0.out.trans (HB1.out.mono HB0.out.size)).setCell (by show _ ≤ w.heap.size + 1; omega) _).setCell (by show _ ≤ w.heap.size + 1; omega) _

/-- Two new points, and whether they are turned. -/
def NewTwo (w : World) (p q : List Int × Int) (t : Bool) (e : Ending) (w' : World) : Prop := ∃ u v, e = .returned (.tuple #[u, v, .bool t]) ∧ NewPt w p w' u ∧ NewPt w q w' v ∧ Below w.heap.size w w'
set_option maxRecDepth 4000 in
theorem three_new (w : World) (o o' o2 : Obj) : (((w.alloc o).alloc o').alloc o2).heap[w.heap.size]? = some o ∧ (((w.alloc o).alloc o').alloc o2).heap[w.heap.size + 1]? = some o' ∧ (((w.alloc o).alloc o').alloc o2).heap[w.heap.size + 1 + 1]? = some o2 := by
  have h := pt_new w o o'
  refine ⟨?_, ?_, ?_⟩
  · rw [Below.heap_alloc _ _ _ (by simp; omega)]; exact h.1
  · rw [Below.heap_alloc _ _ _ (by simp)]; exact h.2
  · rw [show w.heap.size + 1 + 1 = ((w.alloc o).alloc o').heap.size by simp]; exact heap_alloc_new _ _
set_option maxRecDepth 4000 in
theorem NewPt.kept {w W0 w1 w2 W : World} {A : Option Addr} {l : List Int} {n c g g' : Nat} {a b a' b' : Value} (h : OwnI w1 W0.heap.size (.slice A n c) l) (hb : Below w1.heap.size w1 w2) (hg : w2.heap[g]? = some (.cells #[a, b] 29 (0, 0))) (hg' : w2.heap[g']? = some (.cells #[a', b'] 29 (0, 0))) (hne : g' ≠ g) (x y x' y' : Value)
    (hW : W = (((w2.setCell ⟨g, 0, none⟩ x).setCell ⟨g, 1, none⟩ y).setCell ⟨g', 0, none⟩ x').setCell ⟨g', 1, none⟩ y') (hs : w.heap.size ≤ W0.heap.size) : OwnI W w.heap.size (.slice A n c) l := by
  subst hW
  have h1 := ((h.below hb).pt (x := x) (y := y) hg).2
  have hg2 := blk_far (k := 1) (blk_far (k := 0) hg' hne x) hne y
  exact ((h1.pt (x := x') (y := y') hg2).2).weaken hs

set_option maxRecDepth 4000 in
theorem pts_stored {w W : World} (h : Below w.heap.size w W) (a b c d : Value) : Below w.heap.size w ((((W.setCell ⟨w.heap.size + 1, 0, none⟩ a).setCell ⟨w.heap.size + 1, 1, none⟩ b).setCell ⟨w.heap.size + 1 + 1, 0, none⟩ c).setCell ⟨w.heap.size + 1 + 1, 1, none⟩ d) :=
  (((h.setCell (by show _ ≤ w.heap.size + 1; omega) a).setCell (by show _ ≤ w.heap.size + 1; omega) b).setCell (by show _ ≤ w.heap.size + 1 + 1; omega) c).setCell (by show _ ≤ w.heap.size + 1 + 1; omega) d
set_option maxRecDepth 4000 in
set_option maxHeartbeats 4000000 in
theorem order_any (A B : Option Addr) (p q : List Int × Int) (n m c d : Nat) (t : Bool) (w : World) (ht : decide (cmpP q p < 0) = t) (hn : p.1.length = n) (hm : q.1.length = m) (hl : n ≤ 1000) (hl2 : m ≤ 1000) (hp : IL w w.heap.size A p.1) (hq : IL w w.heap.size B q.1) :
    Calls Try.prog 18 #[.agg #[.slice A n c, .int .i64 p.2, .slice B m d, .int .i64 q.2]] w (NewTwo w (if t then q else p) (if t then p else q) t) := by
  subst hn hm
  have HCM := hd (fun (W : World) (h : Below w.heap.size w W) => pcompare_any B A q p q.1.length p.1.length d c W rfl rfl (by omega) (by omega) (hq.later h) (hp.later h))
  have HCA := hd (fun (W : World) (h : Below w.heap.size w W) => fresh_pt A p p.1.length c W rfl hl (hp.later h))
  have HCB := hd (fun (W : World) (h : Below w.heap.size w W) => fresh_pt B q q.1.length d W rfl hl2 (hq.later h))
  obtain ⟨x, hx⟩ : ∃ x, x = cmpP q p := ⟨_, rfl⟩
  rw [← hx] at HCM ht
  clear hx
  obtain ⟨W0, hW⟩ : ∃ W0, W0 = ((w.alloc (.cells #[.slice A p.1.length c, .int .i64 p.2, .slice B q.1.length d, .int .i64 q.2] 31)).alloc (.cells #[.slice none 0 0, .int .i64 0] 29)).alloc (.cells #[.slice none 0 0, .int .i64 0] 29) := ⟨_, rfl⟩
  have hb0 : Below w.heap.size w W0 := hW ▸ (below_mono2 (Below.refl _ _) (Nat.le_refl _)).alloc (by simp; omega) _
  have e0 := three_new w (Obj.cells #[Value.slice A p.1.length c, .int .i64 p.2, Value.slice B q.1.length d, .int .i64 q.2] 31) (Obj.cells #[Value.slice none 0 0, Value.int .i64 0] 29) (Obj.cells #[Value.slice none 0 0, Value.int .i64 0] 29)
  rw [← hW] at e0
  have HW := hd hW
  have HB0 := hd hb0
  have HX0 := hd e0.1
  have HY0 := hd e0.2.1
  have HZ0 := hd e0.2.2
  obtain ⟨x0, x1, x2, x3, _, _, _, _⟩ := blkCells HX0.out
  clear hp hq hW hb0 e0
  have HBX := hd (fun (W : World) (h : W.heap[w.heap.size]? = some (Obj.cells #[Value.slice A p.1.length c, .int .i64 p.2, Value.slice B q.1.length d, .int .i64 q.2] 31 (0, 0))) => (show W.cell? ⟨w.heap.size, 0, none⟩ = some (.slice A p.1.length c) ∧ W.cell? ⟨w.heap.size, 1, none⟩ = some (.int .i64 p.2) ∧ W.cell? ⟨w.heap.size, 2, none⟩ = some (.slice B q.1.length d) ∧ W.cell? ⟨w.heap.size, 3, none⟩ = some (.int .i64 q.2) from ⟨(blkCells h).1, (blkCells h).2.1, (blkCells h).2.2.1, (blkCells h).2.2.2.1⟩))
  have hne1 : w.heap.size ≠ w.heap.size + 1 := by omega
  have hne2 : w.heap.size ≠ w.heap.size + 1 + 1 := by omega
  have hne3 : w.heap.size + 1 ≠ w.heap.size + 1 + 1 := by omega
  have HB9 := hd (fun (W : World) (h : Below w.heap.size w W) (a b c d : Value) => pts_stored h a b c d)
  cases t
  · have HC1 := HCA; have HC2 := HCB
    clear HCA HCB
    go_enter Try.func18, Try.ntmps18
    go_wp2_with (go_at_call 29; rw [← HW.out]; refine (HCM.out _ HB0.out).mono ?_; rintro e w1 ⟨rfl, b1⟩; have HX1 := hd (keepBlk HX0.out b1); have HY1 := hd (keepBlk HY0.out b1); have HZ1 := hd (keepBlk HZ0.out b1); have HB1 := hd (HB0.out.trans (b1.mono HB0.out.size)); clear b1 x0 x1 x2 x3; obtain ⟨x0, x1, x2, x3, _, _, _, _⟩ := blkCells HX1.out)
    have HSa := hd (HBX.out w1.drew HX1.out)
    go_region_held3 (fun W => W.cell? ⟨w.heap.size, 0, none⟩ = some (.slice A p.1.length c) ∧ W.cell? ⟨w.heap.size, 1, none⟩ = some (.int .i64 p.2) ∧ W.cell? ⟨w.heap.size, 2, none⟩ = some (.slice B q.1.length d) ∧ W.cell? ⟨w.heap.size, 3, none⟩ = some (.int .i64 q.2))
      (first
        | (with_reducible exact HS5.out)
        | (with_reducible exact HS4.out)
        | (with_reducible exact HS3.out)
        | (with_reducible exact HS2.out)
        | (with_reducible exact HSa.out))
      (first
        | (go_at_call 40; refine (HC2.out _ HB2.out).mono ?_; rintro e w3 ⟨v2, rfl, ⟨A2, c2, rfl, ho2⟩, hb2⟩; have HX3 := hd (keepBlk HX2.out hb2); have HY3 := hd (keepBlk HY2.out hb2); have HZ3 := hd (keepBlk HZ2.out hb2); have HS3 := hd (HBX.out w3 HX3.out); have HO2 := hd ho2; have HB3 := hd hb2; have hX4 := blk_far (k := 1) (blk_far (k := 0) HX3.out hne1 (.slice A1 p.1.length c1)) hne1 (.int .i64 p.2); have HS4 := hd (HBX.out _ hX4); have HS5 := hd (HBX.out _ (blk_far (k := 1) (blk_far (k := 0) hX4 hne2 (.slice A2 q.1.length c2)) hne2 (.int .i64 q.2))); clear ho2 hb2 hX4 x0 x1 x2 x3; obtain ⟨y0, y1, k0, k1⟩ := blk2 HY3.out; obtain ⟨z0, z1, f0, f1⟩ := blk2 HZ3.out)
        | (go_at_call 40; refine (HC1.out _ (HB1.out.trans ((Below.refl _ _).drew.mono HB1.out.size))).mono ?_; rintro e w2 ⟨v1, rfl, ⟨A1, c1, rfl, ho1⟩, hb1⟩; have HX2 := hd (keepBlk (show w1.drew.heap[_]? = _ from HX1.out) hb1); have HY2 := hd (keepBlk (show w1.drew.heap[_]? = _ from HY1.out) hb1); have HZ2 := hd (keepBlk (show w1.drew.heap[_]? = _ from HZ1.out) hb1); have HB2 := hd ((HB1.out.trans ((Below.refl _ _).drew.mono HB1.out.size)).trans (hb1.mono HB1.out.size)); have HS2 := hd (HBX.out w2 HX2.out); have HO1 := hd ho1; clear ho1 hb1))
    clear y0 y1 k0 k1 z0 z1 f0 f1 HS2 HS3 HS4 HS5 HSa
    go_wp2
    have hY4 := blk2_both HY3.out (.slice A1 p.1.length c1) (.int .i64 p.2)
    have hY5 := blk_far (k := 1) (blk_far (k := 0) hY4 hne3 (.slice A2 q.1.length c2)) hne3 (.int .i64 q.2)
    have hZ4 := blk_far (k := 1) (blk_far (k := 0) HZ3.out (Ne.symm hne3) (.slice A1 p.1.length c1)) (Ne.symm hne3) (.int .i64 p.2)
    have hZ5 := blk2_both hZ4 (.slice A2 q.1.length c2) (.int .i64 q.2)
    obtain ⟨y0, y1, _, _⟩ := blk2 hY5
    obtain ⟨z0, z1, _, _⟩ := blk2 hZ5
    have ho1 := NewPt.kept (W := _) HO1.out HB3.out HY3.out HZ3.out (Ne.symm hne3) (.slice A1 p.1.length c1) (.int .i64 p.2) (.slice A2 q.1.length c2) (.int .i64 q.2) rfl HB1.out.size
    have ho2 := NewPt.kept (W := _) HO2.out (Below.refl _ _) HY3.out HZ3.out (Ne.symm hne3) (.slice A1 p.1.length c1) (.int .i64 p.2) (.slice A2 q.1.length c2) (.int .i64 q.2) rfl HB2.out.size
    refine bodyPost_ret (v := .tuple #[.agg #[.slice A1 p.1.length c1, .int .i64 p.2], .agg #[.slice A2 q.1.length c2, .int .i64 q.2], .bool false]) (by simp [results, Try.results18, go_sem, y0, y1, z0, z1]) rfl ⟨_, _, rfl, ⟨A1, c1, rfl, ho1⟩, ⟨A2, c2, rfl, ho2⟩, HB9.out _ (HB2.out.trans (HB3.out.mono HB2.out.size)) _ _ _ _⟩
  · have HC1 := HCB; have HC2 := HCA
    clear HCA HCB
    go_enter Try.func18, Try.ntmps18
    go_wp2_with (go_at_call 29; rw [← HW.out]; refine (HCM.out _ HB0.out).mono ?_; rintro e w1 ⟨rfl, b1⟩; have HX1 := hd (keepBlk HX0.out b1); have HY1 := hd (keepBlk HY0.out b1); have HZ1 := hd (keepBlk HZ0.out b1); have HB1 := hd (HB0.out.trans (b1.mono HB0.out.size)); clear b1 x0 x1 x2 x3; obtain ⟨x0, x1, x2, x3, _, _, _, _⟩ := blkCells HX1.out)
    have HSa := hd (HBX.out w1.drew HX1.out)
    go_region_held3 (fun W => W.cell? ⟨w.heap.size, 0, none⟩ = some (.slice A p.1.length c) ∧ W.cell? ⟨w.heap.size, 1, none⟩ = some (.int .i64 p.2) ∧ W.cell? ⟨w.heap.size, 2, none⟩ = some (.slice B q.1.length d) ∧ W.cell? ⟨w.heap.size, 3, none⟩ = some (.int .i64 q.2))
      (first
        | (with_reducible exact HS5.out)
        | (with_reducible exact HS4.out)
        | (with_reducible exact HS3.out)
        | (with_reducible exact HS2.out)
        | (with_reducible exact HSa.out))
      (first
        | (go_at_call 40; refine (HC2.out _ HB2.out).mono ?_; rintro e w3 ⟨v2, rfl, ⟨A2, c2, rfl, ho2⟩, hb2⟩; have HX3 := hd (keepBlk HX2.out hb2); have HY3 := hd (keepBlk HY2.out hb2); have HZ3 := hd (keepBlk HZ2.out hb2); have HS3 := hd (HBX.out w3 HX3.out); have HO2 := hd ho2; have HB3 := hd hb2; have hX4 := blk_far (k := 1) (blk_far (k := 0) HX3.out hne1 (.slice A1 q.1.length c1)) hne1 (.int .i64 q.2); have HS4 := hd (HBX.out _ hX4); have HS5 := hd (HBX.out _ (blk_far (k := 1) (blk_far (k := 0) hX4 hne2 (.slice A2 p.1.length c2)) hne2 (.int .i64 p.2))); clear ho2 hb2 hX4 x0 x1 x2 x3; obtain ⟨y0, y1, k0, k1⟩ := blk2 HY3.out; obtain ⟨z0, z1, f0, f1⟩ := blk2 HZ3.out)
        | (go_at_call 40; refine (HC1.out _ (HB1.out.trans ((Below.refl _ _).drew.mono HB1.out.size))).mono ?_; rintro e w2 ⟨v1, rfl, ⟨A1, c1, rfl, ho1⟩, hb1⟩; have HX2 := hd (keepBlk (show w1.drew.heap[_]? = _ from HX1.out) hb1); have HY2 := hd (keepBlk (show w1.drew.heap[_]? = _ from HY1.out) hb1); have HZ2 := hd (keepBlk (show w1.drew.heap[_]? = _ from HZ1.out) hb1); have HB2 := hd ((HB1.out.trans ((Below.refl _ _).drew.mono HB1.out.size)).trans (hb1.mono HB1.out.size)); have HS2 := hd (HBX.out w2 HX2.out); have HO1 := hd ho1; clear ho1 hb1))
    clear y0 y1 k0 k1 z0 z1 f0 f1 HS2 HS3 HS4 HS5 HSa
    go_wp2
    have hY4 := blk2_both HY3.out (.slice A1 q.1.length c1) (.int .i64 q.2)
    have hY5 := blk_far (k := 1) (blk_far (k := 0) hY4 hne3 (.slice A2 p.1.length c2)) hne3 (.int .i64 p.2)
    have hZ4 := blk_far (k := 1) (blk_far (k := 0) HZ3.out (Ne.symm hne3) (.slice A1 q.1.length c1)) (Ne.symm hne3) (.int .i64 q.2)
    have hZ5 := blk2_both hZ4 (.slice A2 p.1.length c2) (.int .i64 p.2)
    obtain ⟨y0, y1, _, _⟩ := blk2 hY5
    obtain ⟨z0, z1, _, _⟩ := blk2 hZ5
    have ho1 := NewPt.kept (W := _) HO1.out HB3.out HY3.out HZ3.out (Ne.symm hne3) (.slice A1 q.1.length c1) (.int .i64 q.2) (.slice A2 p.1.length c2) (.int .i64 p.2) rfl HB1.out.size
    have ho2 := NewPt.kept (W := _) HO2.out (Below.refl _ _) HY3.out HZ3.out (Ne.symm hne3) (.slice A1 q.1.length c1) (.int .i64 q.2) (.slice A2 p.1.length c2) (.int .i64 p.2) rfl HB2.out.size
    refine bodyPost_ret (v := .tuple #[.agg #[.slice A1 q.1.length c1, .int .i64 q.2], .agg #[.slice A2 p.1.length c2, .int .i64 p.2], .bool true]) (by simp [results, Try.results18, go_sem, y0, y1, z0, z1]) rfl ⟨_, _, rfl, ⟨A1, c1, rfl, ho1⟩, ⟨A2, c2, rfl, ho2⟩, HB9.out _ (HB2.out.trans (HB3.out.mono HB2.out.size)) _ _ _ _⟩
set_option maxRecDepth 4000 in
set_option maxHeartbeats 4000000 in
theorem rorder_any (A B : Option Addr) (p q : List Int × Int) (n m c d : Nat) (t : Bool) (w : World) (ht : decide (cmpP q p < 0) = t) (hn : p.1.length = n) (hm : q.1.length = m) (hl : n ≤ 1000) (hl2 : m ≤ 1000) (hp : IL w w.heap.size A p.1) (hq : IL w w.heap.size B q.1) :
    Calls Try.prog 19 #[.agg #[.slice A n c, .int .i64 p.2, .slice B m d, .int .i64 q.2]] w (NewTwo w (if t then q else p) (if t then p else q) t) := by
  subst hn hm
  have HCM := hd (fun (W : World) (h : Below w.heap.size w W) => prcompare_any B A q p q.1.length p.1.length d c W rfl rfl (by omega) (by omega) (hq.later h) (hp.later h))
  have HCA := hd (fun (W : World) (h : Below w.heap.size w W) => rcopy_pt A p p.1.length c W rfl hl (hp.later h))
  have HCB := hd (fun (W : World) (h : Below w.heap.size w W) => rcopy_pt B q q.1.length d W rfl hl2 (hq.later h))
  obtain ⟨x, hx⟩ : ∃ x, x = cmpP q p := ⟨_, rfl⟩
  rw [← hx] at HCM ht
  clear hx
  obtain ⟨W0, hW⟩ : ∃ W0, W0 = ((w.alloc (.cells #[.slice A p.1.length c, .int .i64 p.2, .slice B q.1.length d, .int .i64 q.2] 31)).alloc (.cells #[.slice none 0 0, .int .i64 0] 29)).alloc (.cells #[.slice none 0 0, .int .i64 0] 29) := ⟨_, rfl⟩
  have hb0 : Below w.heap.size w W0 := hW ▸ (below_mono2 (Below.refl _ _) (Nat.le_refl _)).alloc (by simp; omega) _
  have e0 := three_new w (Obj.cells #[Value.slice A p.1.length c, .int .i64 p.2, Value.slice B q.1.length d, .int .i64 q.2] 31) (Obj.cells #[Value.slice none 0 0, Value.int .i64 0] 29) (Obj.cells #[Value.slice none 0 0, Value.int .i64 0] 29)
  rw [← hW] at e0
  have HW := hd hW
  have HB0 := hd hb0
  have HX0 := hd e0.1
  have HY0 := hd e0.2.1
  have HZ0 := hd e0.2.2
  obtain ⟨x0, x1, x2, x3, _, _, _, _⟩ := blkCells HX0.out
  clear hp hq hW hb0 e0
  have HBX := hd (fun (W : World) (h : W.heap[w.heap.size]? = some (Obj.cells #[Value.slice A p.1.length c, .int .i64 p.2, Value.slice B q.1.length d, .int .i64 q.2] 31 (0, 0))) => (show W.cell? ⟨w.heap.size, 0, none⟩ = some (.slice A p.1.length c) ∧ W.cell? ⟨w.heap.size, 1, none⟩ = some (.int .i64 p.2) ∧ W.cell? ⟨w.heap.size, 2, none⟩ = some (.slice B q.1.length d) ∧ W.cell? ⟨w.heap.size, 3, none⟩ = some (.int .i64 q.2) from ⟨(blkCells h).1, (blkCells h).2.1, (blkCells h).2.2.1, (blkCells h).2.2.2.1⟩))
  have hne1 : w.heap.size ≠ w.heap.size + 1 := by omega
  have hne2 : w.heap.size ≠ w.heap.size + 1 + 1 := by omega
  have hne3 : w.heap.size + 1 ≠ w.heap.size + 1 + 1 := by omega
  have HB9 := hd (fun (W : World) (h : Below w.heap.size w W) (a b c d : Value) => pts_stored h a b c d)
  cases t
  · have HC1 := HCA; have HC2 := HCB
    clear HCA HCB
    go_enter Try.func19, Try.ntmps19
    go_wp2_with (go_at_call 30; rw [← HW.out]; refine (HCM.out _ HB0.out).mono ?_; rintro e w1 ⟨rfl, b1⟩; have HX1 := hd (keepBlk HX0.out b1); have HY1 := hd (keepBlk HY0.out b1); have HZ1 := hd (keepBlk HZ0.out b1); have HB1 := hd (HB0.out.trans (b1.mono HB0.out.size)); clear b1 x0 x1 x2 x3; obtain ⟨x0, x1, x2, x3, _, _, _, _⟩ := blkCells HX1.out)
    have HSa := hd (HBX.out w1.drew HX1.out)
    go_region_held3 (fun W => W.cell? ⟨w.heap.size, 0, none⟩ = some (.slice A p.1.length c) ∧ W.cell? ⟨w.heap.size, 1, none⟩ = some (.int .i64 p.2) ∧ W.cell? ⟨w.heap.size, 2, none⟩ = some (.slice B q.1.length d) ∧ W.cell? ⟨w.heap.size, 3, none⟩ = some (.int .i64 q.2))
      (first
        | (with_reducible exact HS5.out)
        | (with_reducible exact HS4.out)
        | (with_reducible exact HS3.out)
        | (with_reducible exact HS2.out)
        | (with_reducible exact HSa.out))
      (first
        | (go_at_call 41; refine (HC2.out _ HB2.out).mono ?_; rintro e w3 ⟨v2, rfl, ⟨A2, c2, rfl, ho2⟩, hb2⟩; have HX3 := hd (keepBlk HX2.out hb2); have HY3 := hd (keepBlk HY2.out hb2); have HZ3 := hd (keepBlk HZ2.out hb2); have HS3 := hd (HBX.out w3 HX3.out); have HO2 := hd ho2; have HB3 := hd hb2; have hX4 := blk_far (k := 1) (blk_far (k := 0) HX3.out hne1 (.slice A1 p.1.length c1)) hne1 (.int .i64 p.2); have HS4 := hd (HBX.out _ hX4); have HS5 := hd (HBX.out _ (blk_far (k := 1) (blk_far (k := 0) hX4 hne2 (.slice A2 q.1.length c2)) hne2 (.int .i64 q.2))); clear ho2 hb2 hX4 x0 x1 x2 x3; obtain ⟨y0, y1, k0, k1⟩ := blk2 HY3.out; obtain ⟨z0, z1, f0, f1⟩ := blk2 HZ3.out)
        | (go_at_call 41; refine (HC1.out _ (HB1.out.trans ((Below.refl _ _).drew.mono HB1.out.size))).mono ?_; rintro e w2 ⟨v1, rfl, ⟨A1, c1, rfl, ho1⟩, hb1⟩; have HX2 := hd (keepBlk (show w1.drew.heap[_]? = _ from HX1.out) hb1); have HY2 := hd (keepBlk (show w1.drew.heap[_]? = _ from HY1.out) hb1); have HZ2 := hd (keepBlk (show w1.drew.heap[_]? = _ from HZ1.out) hb1); have HB2 := hd ((HB1.out.trans ((Below.refl _ _).drew.mono HB1.out.size)).trans (hb1.mono HB1.out.size)); have HS2 := hd (HBX.out w2 HX2.out); have HO1 := hd ho1; clear ho1 hb1))
    clear y0 y1 k0 k1 z0 z1 f0 f1 HS2 HS3 HS4 HS5 HSa
    go_wp2
    have hY4 := blk2_both HY3.out (.slice A1 p.1.length c1) (.int .i64 p.2)
    have hY5 := blk_far (k := 1) (blk_far (k := 0) hY4 hne3 (.slice A2 q.1.length c2)) hne3 (.int .i64 q.2)
    have hZ4 := blk_far (k := 1) (blk_far (k := 0) HZ3.out (Ne.symm hne3) (.slice A1 p.1.length c1)) (Ne.symm hne3) (.int .i64 p.2)
    have hZ5 := blk2_both hZ4 (.slice A2 q.1.length c2) (.int .i64 q.2)
    obtain ⟨y0, y1, _, _⟩ := blk2 hY5
    obtain ⟨z0, z1, _, _⟩ := blk2 hZ5
    have ho1 := NewPt.kept (W := _) HO1.out HB3.out HY3.out HZ3.out (Ne.symm hne3) (.slice A1 p.1.length c1) (.int .i64 p.2) (.slice A2 q.1.length c2) (.int .i64 q.2) rfl HB1.out.size
    have ho2 := NewPt.kept (W := _) HO2.out (Below.refl _ _) HY3.out HZ3.out (Ne.symm hne3) (.slice A1 p.1.length c1) (.int .i64 p.2) (.slice A2 q.1.length c2) (.int .i64 q.2) rfl HB2.out.size
    refine bodyPost_ret (v := .tuple #[.agg #[.slice A1 p.1.length c1, .int .i64 p.2], .agg #[.slice A2 q.1.length c2, .int .i64 q.2], .bool false]) (by simp [results, Try.results19, go_sem, y0, y1, z0, z1]) rfl ⟨_, _, rfl, ⟨A1, c1, rfl, ho1⟩, ⟨A2, c2, rfl, ho2⟩, HB9.out _ (HB2.out.trans (HB3.out.mono HB2.out.size)) _ _ _ _⟩
  · have HC1 := HCB; have HC2 := HCA
    clear HCA HCB
    go_enter Try.func19, Try.ntmps19
    go_wp2_with (go_at_call 30; rw [← HW.out]; refine (HCM.out _ HB0.out).mono ?_; rintro e w1 ⟨rfl, b1⟩; have HX1 := hd (keepBlk HX0.out b1); have HY1 := hd (keepBlk HY0.out b1); have HZ1 := hd (keepBlk HZ0.out b1); have HB1 := hd (HB0.out.trans (b1.mono HB0.out.size)); clear b1 x0 x1 x2 x3; obtain ⟨x0, x1, x2, x3, _, _, _, _⟩ := blkCells HX1.out)
    have HSa := hd (HBX.out w1.drew HX1.out)
    go_region_held3 (fun W => W.cell? ⟨w.heap.size, 0, none⟩ = some (.slice A p.1.length c) ∧ W.cell? ⟨w.heap.size, 1, none⟩ = some (.int .i64 p.2) ∧ W.cell? ⟨w.heap.size, 2, none⟩ = some (.slice B q.1.length d) ∧ W.cell? ⟨w.heap.size, 3, none⟩ = some (.int .i64 q.2))
      (first
        | (with_reducible exact HS5.out)
        | (with_reducible exact HS4.out)
        | (with_reducible exact HS3.out)
        | (with_reducible exact HS2.out)
        | (with_reducible exact HSa.out))
      (first
        | (go_at_call 41; refine (HC2.out _ HB2.out).mono ?_; rintro e w3 ⟨v2, rfl, ⟨A2, c2, rfl, ho2⟩, hb2⟩; have HX3 := hd (keepBlk HX2.out hb2); have HY3 := hd (keepBlk HY2.out hb2); have HZ3 := hd (keepBlk HZ2.out hb2); have HS3 := hd (HBX.out w3 HX3.out); have HO2 := hd ho2; have HB3 := hd hb2; have hX4 := blk_far (k := 1) (blk_far (k := 0) HX3.out hne1 (.slice A1 q.1.length c1)) hne1 (.int .i64 q.2); have HS4 := hd (HBX.out _ hX4); have HS5 := hd (HBX.out _ (blk_far (k := 1) (blk_far (k := 0) hX4 hne2 (.slice A2 p.1.length c2)) hne2 (.int .i64 p.2))); clear ho2 hb2 hX4 x0 x1 x2 x3; obtain ⟨y0, y1, k0, k1⟩ := blk2 HY3.out; obtain ⟨z0, z1, f0, f1⟩ := blk2 HZ3.out)
        | (go_at_call 41; refine (HC1.out _ (HB1.out.trans ((Below.refl _ _).drew.mono HB1.out.size))).mono ?_; rintro e w2 ⟨v1, rfl, ⟨A1, c1, rfl, ho1⟩, hb1⟩; have HX2 := hd (keepBlk (show w1.drew.heap[_]? = _ from HX1.out) hb1); have HY2 := hd (keepBlk (show w1.drew.heap[_]? = _ from HY1.out) hb1); have HZ2 := hd (keepBlk (show w1.drew.heap[_]? = _ from HZ1.out) hb1); have HB2 := hd ((HB1.out.trans ((Below.refl _ _).drew.mono HB1.out.size)).trans (hb1.mono HB1.out.size)); have HS2 := hd (HBX.out w2 HX2.out); have HO1 := hd ho1; clear ho1 hb1))
    clear y0 y1 k0 k1 z0 z1 f0 f1 HS2 HS3 HS4 HS5 HSa
    go_wp2
    have hY4 := blk2_both HY3.out (.slice A1 q.1.length c1) (.int .i64 q.2)
    have hY5 := blk_far (k := 1) (blk_far (k := 0) hY4 hne3 (.slice A2 p.1.length c2)) hne3 (.int .i64 p.2)
    have hZ4 := blk_far (k := 1) (blk_far (k := 0) HZ3.out (Ne.symm hne3) (.slice A1 q.1.length c1)) (Ne.symm hne3) (.int .i64 q.2)
    have hZ5 := blk2_both hZ4 (.slice A2 p.1.length c2) (.int .i64 p.2)
    obtain ⟨y0, y1, _, _⟩ := blk2 hY5
    obtain ⟨z0, z1, _, _⟩ := blk2 hZ5
    have ho1 := NewPt.kept (W := _) HO1.out HB3.out HY3.out HZ3.out (Ne.symm hne3) (.slice A1 q.1.length c1) (.int .i64 q.2) (.slice A2 p.1.length c2) (.int .i64 p.2) rfl HB1.out.size
    have ho2 := NewPt.kept (W := _) HO2.out (Below.refl _ _) HY3.out HZ3.out (Ne.symm hne3) (.slice A1 q.1.length c1) (.int .i64 q.2) (.slice A2 p.1.length c2) (.int .i64 p.2) rfl HB2.out.size
    refine bodyPost_ret (v := .tuple #[.agg #[.slice A1 q.1.length c1, .int .i64 q.2], .agg #[.slice A2 p.1.length c2, .int .i64 p.2], .bool true]) (by simp [results, Try.results19, go_sem, y0, y1, z0, z1]) rfl ⟨_, _, rfl, ⟨A1, c1, rfl, ho1⟩, ⟨A2, c2, rfl, ho2⟩, HB9.out _ (HB2.out.trans (HB3.out.mono HB2.out.size)) _ _ _ _⟩

end Go.Proofs.Ytjolmnghoigggaa
