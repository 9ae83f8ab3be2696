/- Behind Do a labelled tree stands as the tree behind the operation. -/
import Derived.Test.YtmkciabefepelaaGreatJHDo3
import Derived.Test.YtmkciabefepelaaGreatJOKit
import Derived.Test.YtmkciabefepelaaGreatJTTree
import Derived.Test.YtmkciabefepelaaGreatJBFew
import Derived.Test.YtmkciabefepelaaGreatJXCalls
import Derived.Test.YtmkciabefepelaaGreatJIAlike
import Derived.Deep.RegionHeld3
import Derived.Test.YtmkciabefepelaaGreatJXMove5
import Derived.Test.YtmkciabefepelaaGreatBInv
import Derived.Test.YtmkciabefepelaaGreatJBWith
set_option maxRecDepth 100000
set_option maxHeartbeats 8000000
namespace Go.Proofs.YtmkciabefepelaaGreat
open Go.RowKit
theorem kQs {w0 w : World} {v : Value} {g n r : NT} {F : Nat -> Prop} {o : OC} {a : OpP} (hG : Gh w v g F) (hF : ∀ q, F q -> w0.heap.size <= q /\ q < w.heap.size) (ho : OkA w0 o a) (hw : Below w0.heap.size w0 w) (ta : zAf a) (h1 : 1 <= a.k) (h8 : a.k <= 8) (h4 : a.k ≠ 4) (hd : doO n a = (r, 0)) (hs : kOb g n = true) (hn : sizeT n <= 1000) (hm : a.k = 1 -> sizeT a.n <= 1000) : ∃ g', kOb g' r = true /\ Calls Tryz.prog 24 #[v, .agg o.row] w (kQ1 F v g' w) := by
 have hk := ho.hk
 rcases zC7 h1 h8 hd with ⟨e, h⟩ | ⟨e, h⟩ | ⟨e, h⟩ | ⟨e, h⟩ | ⟨e, h⟩ | ⟨e, h⟩ | ⟨e, h⟩ | ⟨e, h⟩
 ·obtain ⟨u, i, x, p1, p2, p3, p4, p5⟩ := zD7 (zCd h).2
  obtain ⟨y, hy, hyx⟩ := kNy u g n x hs p2
  have hl := (kNm hyx).2.1
  have hf := kNu hn p2
  refine ⟨_, ?_, kRt hG hF ho hw ta (by omega) p1 hy (by omega) (by omega) (by have := hm e; omega)⟩
  rw [p5]
  exact kNz u g n x _ _ hs p2 (kOc hyx (kO2 (kRc _ _ (kPr _ _))) i 0)
 ·obtain ⟨hc, _⟩ := zCl h
  obtain ⟨u, i, x, k, p1, p2, p3, p4, p5⟩ := zBn (n := n) (p := a.q) (by rw [hc])
  obtain ⟨y, hy, hyx⟩ := kNy u g n x hs p2
  obtain ⟨gk, hgk, hgkk⟩ := kOi (kNm hyx).2.2 p3
  have hl := (kNm hyx).2.1
  have hf := kNu hn p2
  refine ⟨_, ?_, kRr hG hF ho hw ta (by omega) p1 hy hgk (by omega)⟩
  rw [hc] at p5
  rw [show r = _ from p5]
  exact kNz u g n x _ _ hs p2 (kOc hyx kPz i 1)
 ·obtain ⟨u, i, x, b, k, p1, p2, p3, p4, _, _, _, p8⟩ := zC5 h
  obtain ⟨y, hy, hyx⟩ := kNy u g n x hs p2
  have hl := (kNm hyx).2.1
  have hli := (List.getElem?_eq_some_iff.1 p4).1
  obtain ⟨gb, hgb, hgbb⟩ := kOi (kNm hyx).2.2 p3
  obtain ⟨gk, hgk, hgkk⟩ := kOi (kNm hyx).2.2 p4
  have hat : ∀ (j : Nat) (z : NT), y.ks[j]? = some z -> kB g (u ++ [(j : Int)]) = some z := fun j z hz => by
   rw [jJ, hy]
   show kB y [(j : Int)] = _
   rw [zR, zA9, hz]; rfl
  have hatn : ∀ (j : Nat) (z : NT), x.ks[j]? = some z -> kB n (u ++ [(j : Int)]) = some z := fun j z hz => by
   rw [jJ, p2]
   show kB x [(j : Int)] = _
   rw [zR, zA9, hz]; rfl
  obtain ⟨lb, rb, kb, rfl⟩ := hG.form (hat i gb hgb)
  obtain ⟨lk, rk, kk, rfl⟩ := hG.form (hat (i + 1) gk hgk)
  have hf := kNu hn p2
  have hfb := kNu hn (hatn i b p3)
  have hfk := kNu hn (hatn (i + 1) k p4)
  obtain ⟨b1, b2, b3⟩ := kNm hgbb
  obtain ⟨k1, k2, k3⟩ := kNm hgkk
  obtain ⟨m1, m2⟩ := kRe (m := .mk false [] (lb :: (rb ++ rk)) (kb ++ kk)) hy (by omega) hgb
  have b1 : rb.length + 1 = b.tx.length + 1 := b1
  have k1 : rk.length + 1 = k.tx.length + 1 := k1
  have b2 : kb.length = b.ks.length := b2
  have k2 : kk.length = k.ks.length := k2
  refine ⟨_, ?_, kRw (_k := k) hG hF ho hw ta (by omega) p1 hy hgk (by omega) m1 (by omega)⟩
  rw [m2, p8]
  refine kNz u g n x _ _ hs p2 (kOc hyx (kO2 ?_) i 2)
  refine kPx ?_ ?_
  ·show (lb :: (rb ++ rk)).length = (b.tx ++ k.tx).length + 1
   simp only [List.length_cons, List.length_append]
   omega
  ·exact kOl _ _ _ _ b3 k3
 ·exact absurd e h4
 ·obtain ⟨hc, hq⟩ := zBz h
  obtain ⟨u, i, x, k, p1, p2, p3, p4, p5⟩ := zBn hc
  obtain ⟨y, hy, hyx⟩ := kNy u g n x hs p2
  obtain ⟨gk, hgk, hgkk⟩ := kOi (kNm hyx).2.2 p3
  have hl := (kNm hyx).2.1
  have hf := kNu hn p2
  have hsz := zFn hc
  obtain ⟨t, j, z, q1, q2, q3, q4, q5⟩ := zD7 hq
  rw [p5] at q2 q5 hsz
  rw [p4] at q5
  have hs2 := kNz u g n x _ _ hs p2 (kOc hyx kPz i 1)
  obtain ⟨y2, hy2, hyx2⟩ := kNy t _ _ z hs2 q2
  have hl2 := (kNm hyx2).2.1
  have hf2 := kNu (m := 1000) (by omega) q2
  refine ⟨_, ?_, kRs hG hF ho hw ta (by omega) p1 hy hgk (by omega) q1 hy2 (by omega) (by omega)⟩
  rw [q5]
  exact kNz t _ _ z _ _ hs2 q2 (kOc hyx2 (kO2 hgkk) j 0)
 ·obtain ⟨k, p1, p2, p3, p4⟩ := zC6 h
  refine ⟨g, ?_, kRl hG hF ho hw ta (by simp; omega) (by simp; omega) (by simp; omega) (by simp; omega) (by simp; omega) (by simp; omega) (by simp; omega)⟩
  rw [p4]
  exact kQr hs p2 rfl rfl
 ·obtain ⟨k, p1, p2, p3, p4⟩ := jZ h
  have hi : zFx k.tx a.z a.x = ((zFx k.tx a.z a.x).1, 0) := Prod.ext rfl p3
  obtain ⟨j, hj, hjl⟩ := kRf hi
  have hlen := zKi hi
  obtain ⟨y, hy, hyx⟩ := kNy a.q g n k hs p1
  obtain ⟨lb, rb, kb, rfl⟩ := hG.form hy
  obtain ⟨b1, b2, b3⟩ := kNm hyx
  have hf := kNu hn p1
  have b1 : rb.length + 1 = k.tx.length + 1 := b1
  have b3 : shpK kb k.ks = true := b3
  refine ⟨_, ?_, kRu hG hF ho hw ta (by omega) hy (k := j) (by rw [<- ho.hz]; exact hj) (by omega) (by omega)⟩
  rw [p4]
  refine kNz a.q g n k _ _ hs p1 (kPx ?_ b3)
  show (lb :: (rb.take j ++ List.replicate o.nx (-2) ++ rb.drop j)).length = (zFx k.tx a.z a.x).1.length + 1
  have := ho.hnx
  rw [hlen]
  simp only [List.length_cons, List.length_append, List.length_take, List.length_drop, List.length_replicate]
  omega
 ·obtain ⟨k, p1, p2, p3, p4⟩ := jZ h
  have hi : zFe k.tx a.z a.x = ((zFe k.tx a.z a.x).1, 0) := Prod.ext rfl p3
  obtain ⟨j, hj, hjl⟩ := kRg hi
  have hlen := zKj hi
  obtain ⟨y, hy, hyx⟩ := kNy a.q g n k hs p1
  obtain ⟨lb, rb, kb, rfl⟩ := hG.form hy
  obtain ⟨b1, b2, b3⟩ := kNm hyx
  have hf := kNu hn p1
  have hnx := ho.hnx
  have b1 : rb.length + 1 = k.tx.length + 1 := b1
  have b3 : shpK kb k.ks = true := b3
  refine ⟨_, ?_, kRv hG hF ho hw ta (by omega) hy (k := j) (by rw [<- ho.hz]; exact hj) (by omega) (by omega)⟩
  rw [p4]
  refine kNz a.q g n k _ _ hs p1 (kPx ?_ b3)
  show (lb :: (rb.take j ++ rb.drop (j + o.nx))).length = (zFe k.tx a.z a.x).1.length + 1
  simp only [List.length_cons, List.length_append, List.length_take, List.length_drop]
  omega
def OC.into (o : OC) : SC := ⟨o.gi, o.G1, o.g1, o.e1, o.go, o.G2, o.g2, o.e2, o.gp⟩
theorem zLl {w : World} {o : OC} {a : OpP} (h : OkA w o a) : zB1 w o.into a.g := h.hg
section
variable {w w' : World} {g : Nat} {a b x y : Value} {t : TypeId}
theorem yb2 (h : w.heap[g]? = some (.cells #[a, b] t (0, 0))) : w.cell? ⟨g, 0, none⟩ = some a /\ w.cell? ⟨g, 1, none⟩ = some b /\ w.frozen? ⟨g, 0, none⟩ = false /\ w.frozen? ⟨g, 1, none⟩ = false := by
 refine ⟨?_, ?_, ?_, ?_⟩ <;> simp [World.cell?, World.frozen?, h]
theorem yset (w : World) (g : Nat) (t : TypeId) (cs : Array Value) (k : Nat) (x : Value) (h : w.heap[g]? = some (.cells cs t (0, 0))) : (w.setCell ⟨g, k, none⟩ x).heap[g]? = some (.cells (cs.setIfInBounds k x) t (0, 0)) := by
 have hlt := xlt h
 have h' : w.heap[g] = .cells cs t (0, 0) := by simpa [Array.getElem?_eq_getElem hlt] using h
 show (w.heap.modify g _)[g]? = _
 rw [Array.getElem?_eq_getElem (by simpa using hlt), Array.getElem_modify_self, h']
 rfl
theorem kMq (h : w.heap[g]? = some (.cells #[a, b] t (0, 0))) (x : Value) : (w.setCell ⟨g, 0, none⟩ x).heap[g]? = some (.cells #[x, b] t (0, 0)) := yset w g t _ 0 x h
theorem zCr (h : w.heap[g]? = some (.cells #[a, b] t (0, 0))) (x y : Value) : ((w.setCell ⟨g, 0, none⟩ x).setCell ⟨g, 1, none⟩ y).heap[g]? = some (.cells #[x, y] t (0, 0)) := yset _ g t _ 1 y (yset w g t _ 0 x h)
theorem kFq {cs : Array Value} {g' k : Nat} (h : w.heap[g]? = some (.cells cs t (0, 0))) (hne : g ≠ g') (x : Value) : (w.setCell ⟨g', k, none⟩ x).heap[g]? = some (.cells cs t (0, 0)) := (Below.heap_setCell _ _ _ _ hne).trans h
end
theorem kK3 (w : World) (o o' o2 : Obj) : (((w.alloc o).alloc o').alloc o2).heap[w.heap.size]? = some o /\ (((w.alloc o).alloc o').alloc o2).heap[w.heap.size + 1]? = some o' /\ (((w.alloc o).alloc o').alloc o2).heap[w.heap.size + 1 + 1]? = some o2 := by
 refine ⟨?_, ?_, ?_⟩
 ·rw [Below.heap_alloc _ _ _ (by simp; omega), Below.heap_alloc _ _ _ (by simp)]; exact heap_alloc_new _ _
 ·rw [Below.heap_alloc _ _ _ (by simp), show w.heap.size + 1 = (w.alloc o).heap.size by simp]; exact heap_alloc_new _ _
 ·rw [show w.heap.size + 1 + 1 = ((w.alloc o).alloc o').heap.size by simp]; exact heap_alloc_new _ _
theorem kMr (w : World) (o o' : Obj) : ((w.alloc o).alloc o').heap[w.heap.size]? = some o /\ ((w.alloc o).alloc o').heap[w.heap.size + 1]? = some o' := by
 refine ⟨?_, ?_⟩
 ·rw [Below.heap_alloc _ _ _ (by simp)]; exact heap_alloc_new _ _
 ·rw [show w.heap.size + 1 = (w.alloc o).heap.size by simp]; exact heap_alloc_new _ _
theorem zPp (w : World) (o o' : Obj) : Below w.heap.size w ((w.alloc o).alloc o') := ((Below.refl _ _).alloc (Nat.le_refl _) _).alloc (by simp) _
theorem kH7 (w : World) (o o' o2 : Obj) : Below w.heap.size w (((w.alloc o).alloc o').alloc o2) := (zPp w o o').alloc (by simp; omega) _
theorem zBt.yset {w : World} {B g k : Nat} {u x : Value} {l : List Int} {cs : Array Value} {t : TypeId} {fr : Nat × Nat} (h : zBt w B u l) (hg : w.heap[g]? = some (.cells cs t fr)) (ht : t ≠ 3) : zBt (w.setCell ⟨g, k, none⟩ x) B u l := by
 refine zBt.of_own (ownsRow_setCell_other h.own (a := ⟨g, k, none⟩) (fun e => ?_) _) rfl
 rcases h.own.2 with ⟨e1, _⟩ | ⟨g', cap, cur, e1, _, hg', _⟩
 ·rw [e1] at e; cases e
 ·rw [e1] at e
  injection e with e
  have e : g' = g := e
  subst e
  rw [hg] at hg'
  injection hg' with hg'
  injection hg' with _ h2
  exact ht h2
theorem zBt.ypt {w : World} {B g : Nat} {u a b x y : Value} {l : List Int} (h : zBt w B u l) (hg : w.heap[g]? = some (.cells #[a, b] 29 (0, 0))) : zBt ((w.setCell ⟨g, 0, none⟩ x).setCell ⟨g, 1, none⟩ y) B u l :=
 (h.yset hg (by decide)).yset (kMq hg x) (by decide)
def zC3 (w : World) (r : (List Int × Int) × Bool) (e : Ending) (w' : World) : Prop := ∃ v, e = .returned (.tuple #[.agg #[v, .int .i64 r.1.2], .bool r.2]) /\ zBt w' w.heap.size v r.1.1 /\ Below w.heap.size w w'
theorem zBi {w w' : World} {r : (List Int × Int) × Bool} {l : List Int} {z : Int} {b : Bool} {v : Value} (h : r = ((l, z), b)) (ho : zBt w' w.heap.size v l) (hb : Below w.heap.size w w') : zC3 w r (.returned (.tuple #[.agg #[v, .int .i64 z], .bool b])) w' := by
 subst h; exact ⟨v, rfl, ho, hb⟩
def PA (w : World) (v : Value) (p : List Int × Int) : Prop := ∃ u, v = .agg #[u, .int .i64 p.2] /\ XA w u p.1
theorem kK4 {W : World} {aff : Int} {b : Bool} (h : decide (zDx aff) = b) : Calls Tryz.prog 137 #[.int .i64 aff] W (jA (.bool b) W) := by
 subst h
 by_cases h0 : aff = 0
 ·subst h0
  go_enter Tryz.func137, Tryz.ntmps137
  go_wp2
  go_ret
  exact ⟨rfl, Below.refl _ _⟩
 by_cases h1 : aff = 1
 ·subst h1
  go_enter Tryz.func137, Tryz.ntmps137
  go_wp2
  go_ret
  exact ⟨rfl, Below.refl _ _⟩
 by_cases h2 : aff = 2
 ·subst h2
  go_enter Tryz.func137, Tryz.ntmps137
  go_wp2
  go_ret
  exact ⟨rfl, Below.refl _ _⟩
 have HF := hd (show decide (zDx aff) = false from decide_eq_false (fun h => by unfold zDx at h; omega))
 have e0 : (aff == 0) = false := by simp [h0]
 have e1 : (aff == 1) = false := by simp [h1]
 have e2 : (aff == 2) = false := by simp [h2]
 clear h0 h1 h2
 go_enter Tryz.func137, Tryz.ntmps137
 go_wp2
 go_ret
 exact ⟨kC HF.out.symm, Below.refl _ _⟩
theorem zH0 {W : World} {off pos aff : Int} {b : Bool} (h : zEl off pos aff = b) : Calls Tryz.prog 138 #[.int .i64 off, .int .i64 pos, .int .i64 aff] W (jA (.bool b) W) := by
 subst h
 by_cases h0 : pos < off
 ·have HF := hd (show zEl off pos aff = true by unfold zEl; simp [h0])
  have e0 : decide (pos < off) = true := decide_eq_true h0
  clear h0
  go_enter Tryz.func138, Tryz.ntmps138
  go_wp2
  go_ret
  exact ⟨kC HF.out.symm, Below.refl _ _⟩
 have e0 : decide (pos < off) = false := decide_eq_false h0
 by_cases h1 : pos = off
 ·by_cases h2 : aff = 1
  ·have HF := hd (show zEl off pos aff = true by unfold zEl; simp [h1, h2])
   have e1 : (pos == off) = true := by simp [h1]
   have e2 : (aff == 1) = true := by simp [h2]
   clear h0 h1 h2
   go_enter Tryz.func138, Tryz.ntmps138
   go_wp2
   go_ret
   exact ⟨kC HF.out.symm, Below.refl _ _⟩
  ·have HF := hd (show zEl off pos aff = false by unfold zEl; simp [h0, h2])
   have e1 : (pos == off) = true := by simp [h1]
   have e2 : (aff == 1) = false := by simp [h2]
   clear h0 h1 h2
   go_enter Tryz.func138, Tryz.ntmps138
   go_wp2
   go_ret
   exact ⟨kC HF.out.symm, Below.refl _ _⟩
 ·have HF := hd (show zEl off pos aff = false by unfold zEl; simp [h0, h1])
  have e1 : (pos == off) = false := by simp [h1]
  clear h0 h1
  go_enter Tryz.func138, Tryz.ntmps138
  go_wp2
  go_ret
  exact ⟨kC HF.out.symm, Below.refl _ _⟩
theorem zW6 {W : World} {u : Value} {p : List Int} {off pos aff : Int} (hp : XA W u p) (h : pos = off /\ aff = 0) : Calls Tryz.prog 139 #[.agg #[u, .int .i64 off], .int .i64 pos, .int .i64 aff] W (zC3 W noP) := by
 have e1 : (pos == off) = true := by simp [h.1]
 have e2 : (aff == 0) = true := by simp [h.2]
 clear h
 obtain ⟨A, n, c, rfl, hn, hl, hc, hp⟩ := hp
 obtain ⟨W0, hW⟩ : ∃ W0, W0 = (W.alloc (.cells #[.slice A n c, .int .i64 off] 29)).alloc (.cells #[.slice none 0 0, .int .i64 0] 29) := ⟨_, rfl⟩
 have hb0 : Below W.heap.size W W0 := hW ▸ zPp _ _ _
 have e0 := kMr W (Obj.cells #[Value.slice A n c, Value.int .i64 off] 29) (Obj.cells #[Value.slice none 0 0, Value.int .i64 0] 29)
 rw [<- hW] at e0
 have HKP := hd (fun w (h : Below W0.heap.size W0 w) => zI1 e0.1 h)
 have HKR := hd (fun w (h : Below W0.heap.size W0 w) => zI1 e0.2 h)
 have HIP := hd (fun w (h : Below W0.heap.size W0 w) => hp.later (hb0.trans (h.mono hb0.size)))
 have HP := hd (show ∀ w, Below W0.heap.size W0 w -> XA w (.slice A n c) p from fun w h => ⟨A, n, c, rfl, hn, hl, hc, HIP.out w h⟩)
 have HBc := hd (Below.refl W0.heap.size W0)
 have HW := hd hW
 have HB0 := hd hb0
 have HN := hd hn
 obtain ⟨x0, x1, _, f1⟩ := yb2 (HKP.out W0 HBc.out)
 obtain ⟨z0, z1, g0, g1⟩ := yb2 (HKR.out W0 HBc.out)
 clear hp hn hW hb0 e0
 go_enter Tryz.func139, Tryz.ntmps139
 go_wp2
 rw [<- HW.out]
 refine bodyPost_ret (v := .tuple #[.agg #[.slice none 0 0, .int .i64 0], .bool false]) (by simp [results, Tryz.results139, go_sem, z0, z1]) rfl (zBi rfl (zBt.nil _ _) HB0.out)
theorem kP0 {P : Prop} (h : P := by
 clear h
 go_enter Tryz.func139, Tryz.ntmps139
 go_wp2_with (go_at_call 138; (try rw [<- HW.out]); refine Calls.mono (zH0 HS.out) ?_; rintro e w9 ⟨rfl, b9⟩; have HB9 := hd b9; clear b9 x0 x1 z0 z1 f1 g0 g1; obtain ⟨x0, x1, f0, f1⟩ := yb2 (HKP.out _ HB9.out); obtain ⟨z0, z1, g0, g1⟩ := yb2 (HKR.out _ HB9.out))
 have hr := zCr (HKR.out _ HB9.out) (.slice A n c) (.int .i64 off)
 obtain ⟨y0, y1, _, _⟩ := yb2 hr
 refine bodyPost_ret (v := .tuple #[.agg #[.slice A n c, .int .i64 off], .bool true]) (by simp [results, Tryz.results139, go_sem, y0, y1]) rfl ⟨rfl, ?_⟩
 exact ((HB0.out.trans (HB9.out.mono HB0.out.size)).setCell (by show _ <= W.heap.size + 1; omega) _).setCell (by show _ <= W.heap.size + 1; omega) _) : P := h
theorem zW7 {W : World} {u : Value} {p : List Int} {off pos aff : Int} (hp : XA W u p) (h : ¬ (pos = off /\ aff = 0)) (hs : zEl off pos aff = false) : Calls Tryz.prog 139 #[.agg #[u, .int .i64 off], .int .i64 pos, .int .i64 aff] W (fun e w' => e = .returned (.tuple #[.agg #[u, .int .i64 off], .bool true]) /\ Below W.heap.size W w') := by
 have HS := hd hs
 clear hs
 obtain ⟨A, n, c, rfl, hn, hl, hc, hp⟩ := hp
 obtain ⟨W0, hW⟩ : ∃ W0, W0 = (W.alloc (.cells #[.slice A n c, .int .i64 off] 29)).alloc (.cells #[.slice none 0 0, .int .i64 0] 29) := ⟨_, rfl⟩
 have hb0 : Below W.heap.size W W0 := hW ▸ zPp _ _ _
 have e0 := kMr W (Obj.cells #[Value.slice A n c, Value.int .i64 off] 29) (Obj.cells #[Value.slice none 0 0, Value.int .i64 0] 29)
 rw [<- hW] at e0
 have HKP := hd (fun w (h : Below W0.heap.size W0 w) => zI1 e0.1 h)
 have HKR := hd (fun w (h : Below W0.heap.size W0 w) => zI1 e0.2 h)
 have HIP := hd (fun w (h : Below W0.heap.size W0 w) => hp.later (hb0.trans (h.mono hb0.size)))
 have HP := hd (show ∀ w, Below W0.heap.size W0 w -> XA w (.slice A n c) p from fun w h => ⟨A, n, c, rfl, hn, hl, hc, HIP.out w h⟩)
 have HBc := hd (Below.refl W0.heap.size W0)
 have HW := hd hW
 have HB0 := hd hb0
 have HN := hd hn
 obtain ⟨x0, x1, _, f1⟩ := yb2 (HKP.out W0 HBc.out)
 obtain ⟨z0, z1, g0, g1⟩ := yb2 (HKR.out W0 HBc.out)
 clear hp hn hW hb0 e0
 cases e1 : (pos == off)
 ·exact kP0
 ·have e2 : (aff == 0) = false := by simp at e1; simp; exact fun h2 => h ⟨e1, h2⟩
  exact kP0
theorem kP1 {P : Prop} (h : P := by
 clear h
 go_enter Tryz.func139, Tryz.ntmps139
 go_wp2_with (first | (go_at_call 138; (try rw [<- HW.out]); refine Calls.mono (zH0 HS.out) ?_; rintro e w9 ⟨rfl, b9⟩; have HB9 := hd b9; clear b9 x0 x1 z0 z1 f1 g0 g1; obtain ⟨x0, x1, f0, f1⟩ := yb2 (HKP.out _ HB9.out); obtain ⟨z0, z1, g0, g1⟩ := yb2 (HKR.out _ HB9.out)) | (go_at_call 118; refine Calls.mono (kBe (HP.out _ HB9.out) HBD.out HNX.out) ?_; rintro e w8 ⟨v8, rfl, ho, b8⟩; obtain ⟨A8, c8, rfl, _, _⟩ := ho.open_at (k + 1) HLX.out; have HB8 := hd (zI HB9.out b8); have HO := hd (ho.weaken (Nat.le_trans HB0.out.size HB9.out.size)); clear b8 ho x0 x1 z0 z1 f0 f1 g0 g1; obtain ⟨x0, x1, f0, f1⟩ := yb2 (HKP.out _ HB8.out); obtain ⟨z0, z1, g0, g1⟩ := yb2 (HKR.out _ HB8.out)))
 have hr1 := kFq (k := 1) (kFq (k := 0) (HKR.out _ HB8.out) (g' := W.heap.size) (by omega) (.slice A8 (k + 1) c8)) (g' := W.heap.size) (by omega) (.int .i64 (off - pos))
 have hr := zCr hr1 (.slice A8 (k + 1) c8) (.int .i64 (off - pos))
 obtain ⟨y0, y1, _, _⟩ := yb2 hr
 have ho := ((HO.out.ypt (x := .slice A8 (k + 1) c8) (y := .int .i64 (off - pos)) (HKP.out _ HB8.out)).ypt (x := .slice A8 (k + 1) c8) (y := .int .i64 (off - pos)) hr1)
 clear x0 x1 f0 f1 z0 z1 g0 g1
 refine bodyPost_ret (v := .tuple #[.agg #[.slice A8 (k + 1) c8, .int .i64 (off - pos)], .bool true]) (by simp [results, Tryz.results139, go_sem, y0, y1]) rfl (zBi rfl ho ?_)
 exact ((((HB0.out.trans (HB8.out.mono HB0.out.size)).setCell (Nat.le_refl _) _).setCell (Nat.le_refl _) _).setCell (by show _ <= W.heap.size + 1; omega) _).setCell (by show _ <= W.heap.size + 1; omega) _) : P := h
theorem zW8 {W : World} {u : Value} {p : List Int} {off pos aff : Int} {k : Nat} (hp : XA W u p) (hk : p.length = k + 1) (hsm : jI p = true) (h : ¬ (pos = off /\ aff = 0)) (hs : zEl off pos aff = true) (h1 : 0 <= off) (h2 : off <= 1048576) (h3 : 0 <= pos) (h4 : pos <= 1048576) : Calls Tryz.prog 139 #[.agg #[u, .int .i64 off], .int .i64 pos, .int .i64 aff] W (zC3 W ((addL p k 1, off - pos), true)) := by
 have HS := hd hs
 have HNX := hd (kCp hk hsm)
 have HBD := hd ((zDf p).1 hsm)
 have HLX := hd (show (addL p k 1).length = k + 1 by rw [zJe]; exact hk)
 have HK := hd hk
 clear hs hk hsm
 obtain ⟨A, n, c, rfl, hn, hl, hc, hp⟩ := hp
 obtain ⟨W0, hW⟩ : ∃ W0, W0 = (W.alloc (.cells #[.slice A n c, .int .i64 off] 29)).alloc (.cells #[.slice none 0 0, .int .i64 0] 29) := ⟨_, rfl⟩
 have hb0 : Below W.heap.size W W0 := hW ▸ zPp _ _ _
 have e0 := kMr W (Obj.cells #[Value.slice A n c, Value.int .i64 off] 29) (Obj.cells #[Value.slice none 0 0, Value.int .i64 0] 29)
 rw [<- hW] at e0
 have HKP := hd (fun w (h : Below W0.heap.size W0 w) => zI1 e0.1 h)
 have HKR := hd (fun w (h : Below W0.heap.size W0 w) => zI1 e0.2 h)
 have HIP := hd (fun w (h : Below W0.heap.size W0 w) => hp.later (hb0.trans (h.mono hb0.size)))
 have HP := hd (show ∀ w, Below W0.heap.size W0 w -> XA w (.slice A n c) p from fun w h => ⟨A, n, c, rfl, hn, hl, hc, HIP.out w h⟩)
 have HBc := hd (Below.refl W0.heap.size W0)
 have HW := hd hW
 have HB0 := hd hb0
 have HN := hd hn
 obtain ⟨x0, x1, _, f1⟩ := yb2 (HKP.out W0 HBc.out)
 obtain ⟨z0, z1, g0, g1⟩ := yb2 (HKR.out W0 HBc.out)
 clear hp hn hW hb0 e0
 cases e1 : (pos == off)
 ·exact kP1
 ·have e2 : (aff == 0) = false := by simp at e1; simp; exact fun h2 => h ⟨e1, h2⟩
  exact kP1
theorem kD8 {a b c : Nat} (h : a + 3 <= b) (h2 : b <= c) : a < c /\ a + 1 < c /\ a + 1 + 1 < c := by omega
structure PC where
 A : Option Addr
 n : Nat
 c : Nat
 x : Int
def PC.row (c : PC) : Array Value := #[.slice c.A c.n c.c, .int .i64 c.x]
theorem PC.one (c : PC) : c.row.all (·.oneCell') = true := by kernel_rfl
structure kAw (w : World) (c : PC) (p : List Int × Int) : Prop where
 hx : p.2 = c.x
 hn : p.1.length = c.n
 hc : c.n <= c.c
 hm : c.n <= 1000
 hA : IL w w.heap.size c.A p.1
theorem kAw.later {w w' : World} {c : PC} {p : List Int × Int} (h : kAw w c p) (hb : Below w.heap.size w w') : kAw w' c p := ⟨h.hx, h.hn, h.hc, h.hm, h.hA.later hb⟩
theorem zW : kC5 29 2 := ⟨.struct (Tryz.prog.fieldsOf 29), by kernel_rfl, rfl, by kernel_rfl⟩
theorem kAw.pa {w : World} {c : PC} {p : List Int × Int} (h : kAw w c p) : PA w (.agg c.row) p :=
 ⟨.slice c.A c.n c.c, by rw [h.hx]; rfl, c.A, c.n, c.c, rfl, h.hn, h.hm, h.hc, h.hA⟩
def kK5 (w : World) (r : (List Int × Int) × Bool) (e : Ending) (w' : World) : Prop := ∃ c : PC, e = .returned (.tuple #[.agg c.row, .bool r.2]) /\ kAw w' c r.1 /\ Below w.heap.size w w'
theorem OkA.xq12 {w : World} {o : OC} {a : OpP} (ho : OkA w o a) (ta : zAf a) : XA w (.slice o.Q o.lq o.cq) a.q := ⟨_, _, _, rfl, ho.hlq, by have := ta.hq; have := ho.hlq; omega, ho.hcq, ho.hq⟩
theorem OkA.xt12 {w : World} {o : OC} {a : OpP} (ho : OkA w o a) (ta : zAf a) : XA w (.slice o.T o.lt o.ct) a.t := ⟨_, _, _, rfl, ho.hlt, by have := ta.ht; have := ho.hlt; omega, ho.hct, ho.ht⟩
theorem kH8 (a b : List Int × Int) : samP a b = true ↔ a = b := by unfold samP; exact decide_eq_true_iff
theorem zTu (c : OC) : c.row.all (·.oneCell') = true := by kernel_rfl
theorem zW9 {w : World} {s : SC} {sl : Sl} (h : zB1 w s sl) (hf : fewS sl = true) : kAw w ⟨s.A, s.n, s.c, s.x⟩ sl.a /\ kAw w ⟨s.B, s.m, s.d, s.y⟩ sl.f /\ sl.a.1.length <= 60 /\ sl.f.1.length <= 60 := by
 obtain ⟨l1, l2⟩ := h.len hf
 have e1 := h.hn
 have e2 := h.hm
 exact ⟨⟨h.hx, h.hn, h.hc, by show s.n <= _; omega, h.hA⟩, ⟨h.hy, h.hm, h.hd, by show s.m <= _; omega, h.hB⟩, by omega, by omega⟩
def SC.nil : SC := ⟨false, none, 0, 0, 0, none, 0, 0, 0⟩
theorem zJ2 (w : World) : zB1 w SC.nil zeroS := zIi.zero w
theorem zDs (w : World) (c : NC) (s : SC) (o : OC) : ∃ W0, ((((w.alloc (.cells c.row 26)).alloc (.cells s.row 33)).alloc (.cells o.row 35)).alloc (.cells #[.bool false, .slice none 0 0, .slice none 0 0, .slice none 0 0] 26)).alloc (.cells #[.bool false, .slice none 0 0, .int .i64 0, .slice none 0 0, .int .i64 0] 33) = W0 /\ St5 w c s o (w.heap.size + 1 + 1 + 1) (w.heap.size + 1 + 1 + 1 + 1) NC.nil SC.nil W0 := by
 obtain ⟨W1, hW1, h1⟩ := kN w c s o
 have e1 : W1.heap.size = w.heap.size + 1 + 1 + 1 := by rw [<- hW1]; simp
 rw [hW1]
 refine ⟨_, rfl, h1.call (((Below.refl _ _).alloc (Nat.le_refl _) _).alloc (by simp) _), ?_, ?_⟩
 ·rw [<- e1]; exact (jT.new W1 26 NC.nil.row).alloc _
 ·have e2 : (W1.alloc (.cells NC.nil.row 26)).heap.size = w.heap.size + 1 + 1 + 1 + 1 := by simp [e1]
  rw [<- e2]; exact jT.new _ 33 SC.nil.row
theorem St5.set7 {w W W' : World} {c : NC} {s : SC} {o : OC} {g7 g8 : Nat} {a a' : NC} {t : SC} (h : St5 w c s o g7 g8 a t W) (hg : w.heap.size + 1 + 1 < g7) (hne : g8 ≠ g7) (hv : jT 26 W' g7 a'.row) (ho : Off g7 W W') : St5 w c s o g7 g8 a' t W' := ⟨h.st.store ho hg, hv, h.v8.off ho hne⟩
theorem St5.set8 {w W W' : World} {c : NC} {s : SC} {o : OC} {g7 g8 : Nat} {a : NC} {t t' : SC} (h : St5 w c s o g7 g8 a t W) (hg : w.heap.size + 1 + 1 < g8) (hne : g7 ≠ g8) (hv : jT 33 W' g8 t'.row) (ho : Off g8 W W') : St5 w c s o g7 g8 a t' W' := ⟨h.st.store ho hg, h.v7.off ho hne, hv⟩
theorem zDt {fn : Func} {p q u : Tmp} (h : fn.results = #[.cell p 26, .cell q 33, .tmp u]) (tmps : Array Value) (w : World) {g g' : Nat} {c : NC} {s : SC} (hv : jT 26 w g c.row) (hs : jT 33 w g' s.row) (hp : tmps.getD p undef = .pointer (some ⟨g, 0, none⟩)) (hq : tmps.getD q undef = .pointer (some ⟨g', 0, none⟩)) : (results fn tmps).run Tryz.prog w = .ok (.tuple #[.agg c.row, .agg s.row, tmps.getD u undef]) w := by
 obtain ⟨d, h3, h4, h5⟩ := zD
 obtain ⟨d', h3', h4', h5'⟩ := zP
 simp only [results, h]
 simp only [List.mapM_toArray, hp, hq, asAddr, Sem.run_bind, Sem.run_pure, List.mapM_cons, List.mapM_nil]
 simp [Sem.run_bind, Result.andThen, run_loadVar_row w g _ _ _ _ d hv h3 (by cases d <;> simp_all) h5, run_loadVar_row w g' _ _ _ _ d' hs h3' (by cases d' <;> simp_all) h5']
def OC.from_ (o : OC) : SC := ⟨o.fi, o.F1, o.f1, o.d1, o.fo, o.F2, o.f2, o.d2, o.fp⟩
theorem zPq {w : World} {o : OC} {a : OpP} (h : OkA w o a) : zB1 w o.from_ a.f := h.hf
theorem kH9 {w : World} {c : NC} {n : NT} (h : kS w c n) : Calls Tryz.prog 75 #[.agg c.row] w (fun e w' => ∃ c' : NC, e = .returned (.agg c'.row) /\ zH3 w.heap.size w' (fun W => kS W c' n) /\ Below w.heap.size w w') := by
 obtain ⟨d, h⟩ := h
 refine (zEy d w _ n h).mono fun e w' h1 => ?_
 obtain ⟨v, rfl, ht, hb⟩ := h1
 obtain ⟨c', rfl, _⟩ := zFo (ht.at_ (B := w'.heap.size) fun b hb => hb.2)
 exact ⟨c', rfl, zHy ht, hb⟩
def zVb (w : World) (r : (NT × Sl) × Int) (e : Ending) (w' : World) : Prop :=
 ∃ (c : NC) (s : SC), e = .returned (.tuple #[.agg c.row, .agg s.row, .int .i64 r.2]) /\ zH3 w.heap.size w' (fun W => kS W c r.1.1) /\ zH3 w.heap.size w' (fun W => zB1 W s r.1.2) /\ Below w.heap.size w w'
theorem kOm {P : Prop} (h : P := by
 have H1 := hd h1
 try have H2 := hd h2
 try have H3 := hd h3
 try have H4 := hd h4
 have HN := hd hn
 have HSL := hd hs
 have HO := hd ho
 have HFS := hd hf
 have HTA := hd ta
 clear hn hs ho hf ta h1
 try clear h2
 try clear h3
 try clear h4
 obtain ⟨W0, hW, hst⟩ := kN w c s o
 have HW := hd hW
 have HM := hd hst
 clear hW hst
 go_enter Tryz.func40, Tryz.ntmps40
 go_upto_region 1 with fail
 rw [HW.out]
 clear HW
 go_wp2_with (first
  | ((with_reducible refine zC (ty := 26) (x := .tmp 3) ?_); refine zB zD HM.out.v3 rfl _ rfl rfl rfl ?_)
  | (go_at_call 18; refine Calls.mono (zFa (HN.out.later HM.out.below) H1.out) ?_; rintro e w1 ⟨rfl, b9⟩; have HM := hd (HM.out.call b9); clear b9)
  | ((with_reducible refine zC (ty := 4) (x := .tmp 14) ?_); refine zM HM.out.v3 (j := 0) (v := .bool false) _ rfl rfl rfl (by simp only [NC.row, H2.out]; rfl) Tryz.underlying4 rfl ?_)
  | ((with_reducible refine zC (ty := 4) (x := .tmp 14) ?_); refine zM HM.out.v3 (j := 0) (v := .bool true) _ rfl rfl rfl (by simp only [NC.row, H2.out]; rfl) Tryz.underlying4 rfl ?_)
  | ((with_reducible refine zC (ty := 33) (x := .tmp 4) ?_); refine zB zP HM.out.v4 rfl _ rfl rfl rfl ?_)
  | (go_at_call 19; refine Calls.mono (zKk (HN.out.later HM.out.below) (HSL.out.later HM.out.below) HFS.out H3.out) ?_; rintro e w2 ⟨rfl, b9⟩; have HM := hd (HM.out.call b9); clear b9)
  | ((with_reducible refine zC (ty := 35) (x := .tmp 5) ?_); refine zG HM.out.v5 _ rfl rfl rfl ?_)
  | (go_at_call 58; refine Calls.mono (zFt (HO.out.later HM.out.below) HTA.out H4.out) ?_; rintro e w3 ⟨rfl, b9⟩; have HM := hd (HM.out.call b9); clear b9)
  | fail)
 go_ret
 exact ⟨rfl, HM.out.below⟩) : P := h
set_option maxRecDepth 100000 in
theorem kH0 {w : World} {c : NC} {s : SC} {o : OC} {n : NT} {sl : Sl} {a : OpP} {E : Int} (hn : kS w c n) (hs : zB1 w s sl) (ho : OkA w o a) (hf : fewS sl = true) (ta : zAf a) (h1 : zAd n = E) (hne : (E != 0) = true) : Calls Tryz.prog 40 #[.agg c.row, .agg s.row, .agg o.row] w (jA (.int .i64 E) w) := by
 exact kOm
set_option maxRecDepth 100000 in
theorem kH1 {w : World} {c : NC} {s : SC} {o : OC} {n : NT} {sl : Sl} {a : OpP} (hn : kS w c n) (hs : zB1 w s sl) (ho : OkA w o a) (hf : fewS sl = true) (ta : zAf a) (h1 : zAd n = 0) (h2 : c.lf = true) : Calls Tryz.prog 40 #[.agg c.row, .agg s.row, .agg o.row] w (jA (.int .i64 7) w) := by
 exact kOm
set_option maxRecDepth 100000 in
theorem kH2 {w : World} {c : NC} {s : SC} {o : OC} {n : NT} {sl : Sl} {a : OpP} {E : Int} (hn : kS w c n) (hs : zB1 w s sl) (ho : OkA w o a) (hf : fewS sl = true) (ta : zAf a) (h1 : zAd n = 0) (h2 : c.lf = false) (h3 : zE8 n sl = E) (hne : (E != 0) = true) : Calls Tryz.prog 40 #[.agg c.row, .agg s.row, .agg o.row] w (jA (.int .i64 E) w) := by
 exact kOm
set_option maxRecDepth 100000 in
theorem kH3 {w : World} {c : NC} {s : SC} {o : OC} {n : NT} {sl : Sl} {a : OpP} {E : Int} (hn : kS w c n) (hs : zB1 w s sl) (ho : OkA w o a) (hf : fewS sl = true) (ta : zAf a) (h1 : zAd n = 0) (h2 : c.lf = false) (h3 : zE8 n sl = 0) (h4 : zCx a = E) : Calls Tryz.prog 40 #[.agg c.row, .agg s.row, .agg o.row] w (jA (.int .i64 E) w) := by
 exact kOm
noncomputable def zG7 (n : NT) (s : Sl) (a : OpP) : Int := if zAd n ≠ 0 then zAd n else if n.lf = true then 7 else if zE8 n s ≠ 0 then zE8 n s else zCx a
theorem zIh {w : World} {c : NC} {s : SC} {o : OC} {n : NT} {sl : Sl} {a : OpP} {E : Int} (hn : kS w c n) (hs : zB1 w s sl) (ho : OkA w o a) (hf : fewS sl = true) (ta : zAf a) (hE : zG7 n sl a = E) : Calls Tryz.prog 40 #[.agg c.row, .agg s.row, .agg o.row] w (jA (.int .i64 E) w) := by
 unfold zG7 at hE
 by_cases h1 : zAd n = 0
 case neg => rw [if_pos h1] at hE; subst hE; exact kH0 hn hs ho hf ta rfl (by simpa using h1)
 rw [if_neg (by simp [h1])] at hE
 have el := hn.lf
 cases h2 : n.lf with
 | true => rw [if_pos h2] at hE; subst hE; exact kH1 hn hs ho hf ta h1 (by rw [<- el]; exact h2)
 | false =>
  rw [if_neg (by simp [h2])] at hE
  have h2' : c.lf = false := by rw [<- el]; exact h2
  by_cases h3 : zE8 n sl = 0
  case neg => rw [if_pos h3] at hE; subst hE; exact kH2 hn hs ho hf ta h1 h2' rfl (by simpa using h3)
  rw [if_neg (by simp [h3])] at hE
  exact kH3 hn hs ho hf ta h1 h2' h3 hE
end Go.Proofs.YtmkciabefepelaaGreat
