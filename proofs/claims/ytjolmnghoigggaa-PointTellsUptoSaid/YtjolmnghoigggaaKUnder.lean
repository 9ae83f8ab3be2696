/- A Kid's point, told by the node above it (under); a list turned round (slices.Reverse); what is told of it (told). -/
import Derived.Test.YtjolmnghoigggaaKOrd
import Derived.Test.YtjolmnghoigggaaKText
namespace Go.Proofs.Ytjolmnghoigggaa
open Go.RowKit
open Go.WideShapes (add_plain)

/-- One number appended to a row of the call's own. -/
theorem wpList_append_one (W : World) {ops : Array Oper} {rest : List Oper} {o : Oper} {a : Act} {Q : Exit → Act → World → Prop} (hgd : o.guard = none) (s x : Operand)
    (ho : o.op = .call { callee := .builtin .append, args := #[s, x], argTypes := #[27, 27] })
    (b : Nat) (v : Value) (k : List Int) (i : Int) (hs : a.eval s = v) (hO : OwnI W b v k) (ad : Addr) (c : Nat) (hx : a.eval x = .slice (some ad) 1 c) (hc : W.cell? (ad.add 0) = some (.int .i64 i)) (hlen : k.length ≤ 100000000) (hb : b ≤ W.heap.size)
    (hK : ∀ v' w', OwnI w' b v' (k ++ [i]) → W.grownBy w' v.ownBlock → wpList Try.prog ops Q rest (a.put o.dst v') w') :
    wpList Try.prog ops Q (o :: rest) a W := by
  obtain ⟨i0, hi, hz0, hz1, hz2⟩ := info_parts intInfo
  refine wpList_append_own _ hgd s x 27 ho b 3 i0 _ 1 8 Try.underlying27 hi hz0 hz1 hz2 rfl (by decide) v k.length (k.map (Value.int .i64)) hs hO.own ad 1 c [.int .i64 i] hx (by simp) (fun j u hj => ?_) (by simp [Value.oneCell'])
    (by unfold maxLen; omega) (by omega) hb (fun v' w' h1 h2 _ => hK v' w' (OwnI.of_own (n := k.length + 1) (by rw [List.map_append]; exact h1) (by simp)) h2)
  match j, hj with
  | 0, hj =>
    simp at hj; subst hj
    exact hc
  | j + 1, hj => simp at hj

set_option maxRecDepth 4000 in
theorem OwnI.more_pts {w : World} {B : Nat} {u : Value} {l : List Int} (h : OwnI w B u l) (o o' : Obj) : OwnI ((w.alloc o).alloc o') B u l := h.below (below_mono2 (Below.refl _ _) (Nat.le_refl _))

/-- A point whose path is a row of the call's own. -/
def GotPt (B : Nat) (w : World) (l : List Int) (o : Int) (e : Ending) (w' : World) : Prop := ∃ A n c, n = l.length ∧ e = .returned (.agg #[.slice A n c, .int .i64 o]) ∧ OwnI w' B (.slice A n c) l ∧ Below B w w'

set_option maxRecDepth 4000 in
set_option maxHeartbeats 2000000 in
theorem under_any (B : Nat) (A : Option Addr) (l : List Int) (i o : Int) (n c : Nat) (w : World) (hn : l.length = n) (hl : n ≤ 100000000) (hO : OwnI w B (.slice A n c) l) (hB : B ≤ w.heap.size) :
    Calls Try.prog 63 #[.int .i64 i, .agg #[.slice A n c, .int .i64 o]] w (GotPt B w (l ++ [i]) o) := by
  obtain ⟨W0, hW⟩ : ∃ W0, W0 = (w.alloc (.cells #[.slice A n c, .int .i64 o] 29)).alloc (.cells #[.slice none 0 0, .int .i64 0] 29) := ⟨_, rfl⟩
  have hb0 : Below w.heap.size w W0 := hW ▸ below_mono2 (Below.refl _ _) (Nat.le_refl _)
  have e0 := pt_new w (Obj.cells #[Value.slice A n c, Value.int .i64 o] 29) (Obj.cells #[Value.slice none 0 0, Value.int .i64 0] 29)
  rw [← hW] at e0
  have hO1 := (hO.below hb0).below ((Below.refl W0.heap.size W0).alloc (Nat.le_refl _) (.cells #[.int .i64 i] 3))
  have hb1 := (Below.refl W0.heap.size W0).alloc (Nat.le_refl _) (.cells #[.int .i64 i] 3)
  have HC1 := hd (show (W0.alloc (.cells #[.int .i64 i] 3)).cell? ⟨w.heap.size + 1 + 1, 0, none⟩ = some (.int .i64 i) by rw [World.cell?_alloc_at _ _ _ _ (by rw [hW]; simp)]; rfl)
  have HW := hd hW
  have HB0 := hd hb0
  have HX := hd (keepBlk e0.1 hb1)
  have HY := hd (keepBlk e0.2 hb1)
  have HO := hd hO1
  have HN := hd hn
  have HB1 := hd hb1
  obtain ⟨x0, x1, f0, f1⟩ := blk2 e0.1
  clear hn hO hW hb0 e0 hO1 hb1
  go_enter Try.func63, Try.ntmps63
  go_wp2_with (at_builtin; rw [← HW.out]; refine wpList_append_one _ rfl (.tmp 6) (.tmp 8) rfl B (.slice A n c) l i rfl HO.out ⟨w.heap.size + 1 + 1, 0, none⟩ 1 rfl HC1.out (by have := HN.out; omega) (by have := HB0.out.size; simp; omega) ?_; intro v1 w1 ho1 hg1; obtain ⟨A1, c1, rfl, h1, hI⟩ := ho1.open_at (n + 1) (by simp [HN.out]); have HX1 := hd ((hg1.block _ (lt_of_block HX.out) (fun e => own_type HO.out.own HX.out (by decide) e.symm)).trans HX.out); have HY1 := hd ((hg1.block _ (lt_of_block HY.out) (fun e => own_type HO.out.own HY.out (by decide) e.symm)).trans HY.out); have HO1 := hd ho1; have HG := hd hg1; clear ho1 hg1 hI x0 x1 f0 f1; obtain ⟨x0, x1, f0, f1⟩ := blk2 HX1.out; obtain ⟨y0, y1, k0, k1⟩ := blk2 HY1.out)
  have hb1 : Below B w w1 := by
    have h0 : Below B w (W0.alloc (.cells #[.int .i64 i] 3)) := (HB0.out.mono hB).trans (HB1.out.mono (Nat.le_trans hB HB0.out.size))
    exact h0.trans ⟨HG.out.os, HG.out.tape, HG.out.output, HG.out.size, fun b hb => HG.out.block b (by have := h0.size; omega) (fun e => by have := (HO.out.lt e.symm).1; omega)⟩
  clear x0 x1 f0 f1 y0 y1 k0 k1
  have hX2 := blk2_0 HX1.out (.slice A1 (n + 1) c1)
  have hY2 := blk_far (g' := w.heap.size) (k := 0) HY1.out (by omega) (.slice A1 (n + 1) c1)
  have hY3 := blk2_both hY2 (.slice A1 (n + 1) c1) (.int .i64 o)
  obtain ⟨z0, z1, _, _⟩ := blk2 hY3
  have ho := ((HO1.out.set (k := 0) (x := .slice A1 (n + 1) c1) HX1.out (by decide)).pt (x := .slice A1 (n + 1) c1) (y := .int .i64 o) hY2).2
  refine bodyPost_ret (v := .agg #[.slice A1 (n + 1) c1, .int .i64 o]) (by simp [results, Try.results63, go_sem, z0, z1]) rfl ⟨A1, n + 1, c1, by simp [HN.out], rfl, ho, ?_⟩
  exact ((hb1.setCell hB _).setCell (by show _ ≤ w.heap.size + 1; omega) _).setCell (by show _ ≤ w.heap.size + 1; omega) _

end Go.Proofs.Ytjolmnghoigggaa
