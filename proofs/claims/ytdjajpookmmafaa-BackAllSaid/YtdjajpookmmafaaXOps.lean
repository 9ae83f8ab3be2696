/- Operations in memory; calls on worlds that hold more; two lists one behind the other; what stands behind a place. -/
import Derived.Test.YtdjajpookmmafaaXCalls
import Derived.Test.YtdjajpookmmafaaIBase
import Derived.StillTailTactics
import Derived.Deep.Cut
import Derived.Deep.RegionHeld3
import Derived.Deep.RegionLaw
import Derived.BigRegion
namespace Go.Proofs.Ytdjajpookmmafaa
open Go.RowKit
open Go.WideShapes (add_plain)

theorem xlt {w : World} {g : Nat} {o : Obj} (h : w.heap[g]? = some o) : g < w.heap.size := (Array.getElem?_eq_some_iff.1 h).1
set_option maxRecDepth 4000 in
theorem xkeep {W w' : World} {g : Nat} {o : Obj} (h : W.heap[g]? = some o) (hb : Below W.heap.size W w') : w'.heap[g]? = some o := (hb.block _ (xlt h)).trans h
set_option maxRecDepth 4000 in
theorem op_cells {w : World} {g : Nat} {x0 x1 x2 x3 r4 r5 r6 r7 r8 r9 r10 r11 r12 r13 r14 r15 r16 r17 r18 r19 r20 : Value} {t : TypeId} (h : w.heap[g]? = some (.cells #[x0, x1, x2, x3, r4, r5, r6, r7, r8, r9, r10, r11, r12, r13, r14, r15, r16, r17, r18, r19, r20] t (0, 0))) :
    w.cell? ⟨g, 0, none⟩ = some x0 ∧ w.cell? ⟨g, 1, none⟩ = some x1 ∧ w.cell? ⟨g, 2, none⟩ = some x2 ∧ w.cell? ⟨g, 3, none⟩ = some x3 := by
  refine ⟨?_, ?_, ?_, ?_⟩ <;> simp [World.cell?, h]
set_option maxRecDepth 4000 in
theorem op_rest {w : World} {g : Nat} {x0 x1 x2 x3 r4 r5 r6 r7 r8 r9 r10 r11 r12 r13 r14 r15 r16 r17 r18 r19 r20 : Value} {t : TypeId} (h : w.heap[g]? = some (.cells #[x0, x1, x2, x3, r4, r5, r6, r7, r8, r9, r10, r11, r12, r13, r14, r15, r16, r17, r18, r19, r20] t (0, 0))) :
    w.cell? ⟨g, 4, none⟩ = some r4 ∧ w.cell? ⟨g, 5, none⟩ = some r5 ∧ w.cell? ⟨g, 6, none⟩ = some r6 ∧ w.cell? ⟨g, 7, none⟩ = some r7 ∧ w.cell? ⟨g, 8, none⟩ = some r8 ∧ w.cell? ⟨g, 9, none⟩ = some r9 ∧ w.cell? ⟨g, 10, none⟩ = some r10 ∧ w.cell? ⟨g, 11, none⟩ = some r11 ∧ w.cell? ⟨g, 12, none⟩ = some r12 ∧ w.cell? ⟨g, 13, none⟩ = some r13 ∧ w.cell? ⟨g, 14, none⟩ = some r14 ∧ w.cell? ⟨g, 15, none⟩ = some r15 ∧ w.cell? ⟨g, 16, none⟩ = some r16 ∧ w.cell? ⟨g, 17, none⟩ = some r17 ∧ w.cell? ⟨g, 18, none⟩ = some r18 ∧ w.cell? ⟨g, 19, none⟩ = some r19 ∧ w.cell? ⟨g, 20, none⟩ = some r20 := by
  refine ⟨?_, ?_, ?_, ?_, ?_, ?_, ?_, ?_, ?_, ?_, ?_, ?_, ?_, ?_, ?_, ?_, ?_⟩ <;> simp [World.cell?, h]

def NewPB (w : World) (r : List Int × Bool) (e : Ending) (w' : World) : Prop := ∃ v, e = .returned (.tuple #[v, .bool r.2]) ∧ OwnI w' w.heap.size v r.1 ∧ Below w.heap.size w w'
set_option maxRecDepth 4000 in
theorem newPB_ret {w w' : World} {r : List Int × Bool} {l : List Int} {b : Bool} {v : Value} (h : r = (l, b)) (ho : OwnI w' w.heap.size v l) (hb : Below w.heap.size w w') : NewPB w r (.returned (.tuple #[v, .bool b])) w' := by
  subst h; exact ⟨v, rfl, ho, hb⟩
set_option maxRecDepth 4000 in
theorem newPB_old {w W w' : World} {r s : List Int × Bool} {e : Ending} (h : NewPB W s e w') (hr : r = s) (hb : Below w.heap.size w W) : NewPB w r e w' := by
  subst hr
  obtain ⟨v, he, ho, hb2⟩ := h
  exact ⟨v, he, ho.weaken hb.size, hb.trans (hb2.mono hb.size)⟩
set_option maxRecDepth 4000 in
theorem NewP.old {w W w' : World} {l : List Int} {e : Ending} (h : NewP W l e w') (hb : Below w.heap.size w W) : NewP w l e w' := by
  obtain ⟨v, he, ho, hb2⟩ := h
  exact ⟨v, he, ho.weaken hb.size, hb.trans (hb2.mono hb.size)⟩
set_option maxRecDepth 4000 in
theorem il_new (W : World) (l : List Int) (t : TypeId) (_hn : l ≠ []) : IL (W.alloc (.cells (l.map (Value.int .i64)).toArray t)) (W.heap.size + 1) (some ⟨W.heap.size, 0, none⟩) l := fun _ =>
  ⟨W.heap.size, 0, rfl, by omega, fun k hk => by rw [World.cell?_alloc_at _ _ _ _ rfl]; simp [iAt_eq l k hk, hk]⟩
set_option maxRecDepth 4000 in
theorem il_one (W : World) (x : Int) (t : TypeId) : IL (W.alloc (.cells #[.int .i64 x] t)) (W.alloc (.cells #[.int .i64 x] t)).heap.size (some ⟨W.heap.size, 0, none⟩) [x] := by
  have := il_new W [x] t (by simp)
  simpa using this
set_option maxRecDepth 4000 in
theorem xil_two (W : World) (x y : Int) (t : TypeId) : IL (W.alloc (.cells #[.int .i64 x, .int .i64 y] t)) (W.alloc (.cells #[.int .i64 x, .int .i64 y] t)).heap.size (some ⟨W.heap.size, 0, none⟩) [x, y] := by
  have := il_new W [x, y] t (by simp)
  simpa using this
set_option maxRecDepth 4000 in
theorem il_three (W : World) (x y z : Int) (t : TypeId) : IL (W.alloc (.cells #[.int .i64 x, .int .i64 y, .int .i64 z] t)) (W.alloc (.cells #[.int .i64 x, .int .i64 y, .int .i64 z] t)).heap.size (some ⟨W.heap.size, 0, none⟩) [x, y, z] := by
  have := il_new W [x, y, z] t (by simp)
  simpa using this
set_option maxRecDepth 4000 in
theorem new_below (W : World) (o : Obj) : Below W.heap.size W (W.alloc o) := (Below.refl _ _).alloc (Nat.le_refl _) _

/-- The value v is the path l. -/
def XA (w : World) (v : Value) (l : List Int) : Prop := ∃ A n c, v = .slice A n c ∧ l.length = n ∧ n ≤ 1000 ∧ n ≤ c ∧ IL w w.heap.size A l
set_option maxRecDepth 4000 in
theorem XA.later {w w' : World} {v : Value} {l : List Int} (h : XA w v l) (hb : Below w.heap.size w w') : XA w' v l := by
  obtain ⟨A, n, c, e, h1, h2, h3, h4⟩ := h
  exact ⟨A, n, c, e, h1, h2, h3, h4.later hb⟩
set_option maxRecDepth 4000 in
theorem XA.own {w : World} {B : Nat} {v : Value} {l : List Int} (h : OwnI w B v l) (hl : l.length ≤ 1000) : XA w v l := by
  obtain ⟨A, c, e, h1, _, h2⟩ := h.open_
  exact ⟨A, _, c, e, rfl, hl, h1, h2⟩
set_option maxRecDepth 4000 in
theorem xa_nil (W : World) (d : Nat) : XA W (.slice none 0 d) [] := ⟨none, 0, d, rfl, rfl, by omega, by omega, IL.nil _ _ _⟩
set_option maxRecDepth 4000 in
theorem xa_one (W : World) (x : Int) (t : TypeId) : XA (W.alloc (.cells #[.int .i64 x] t)) (.slice (some ⟨W.heap.size, 0, none⟩) 1 1) [x] := ⟨_, _, _, rfl, rfl, by omega, by omega, il_one W x t⟩
set_option maxRecDepth 4000 in
theorem xa_two (W : World) (x y : Int) (t : TypeId) : XA (W.alloc (.cells #[.int .i64 x, .int .i64 y] t)) (.slice (some ⟨W.heap.size, 0, none⟩) 2 2) [x, y] := ⟨_, _, _, rfl, rfl, by omega, by omega, xil_two W x y t⟩
set_option maxRecDepth 4000 in
theorem xa_three (W : World) (x y z : Int) (t : TypeId) : XA (W.alloc (.cells #[.int .i64 x, .int .i64 y, .int .i64 z] t)) (.slice (some ⟨W.heap.size, 0, none⟩) 3 3) [x, y, z] := ⟨_, _, _, rfl, rfl, by omega, by omega, il_three W x y z t⟩
set_option maxRecDepth 4000 in
theorem within_at {W : World} {v : Value} {l : List Int} {b : Bool} (hp : XA W v l) (hs : smallI l = b) : Calls Try.prog 39 #[v] W (Still (.bool b) W) := by
  obtain ⟨A, n, c, rfl, h1, h2, _, h3⟩ := hp
  subst hs
  exact calls_still (within_any A l n c W h1 (by omega) h3)
set_option maxRecDepth 4000 in
theorem stand_at {W : World} {u v : Value} {l m : List Int} {s : Int} (hp : XA W u l) (hq : XA W v m) (hs : standL l m = s) : Calls Try.prog 41 #[u, v] W (Quiet (.int .i64 s) W) := by
  obtain ⟨A, n, c, rfl, h1, h2, _, h3⟩ := hp
  obtain ⟨B, k, d, rfl, g1, g2, _, g3⟩ := hq
  subst hs
  exact stand_any A B l m n k c d W h1 g1 (by omega) (by omega) h3 g3
/-- Numbers that do not run over. -/
def Mild (l : List Int) : Prop := ∀ j, j < l.length → -4000000 ≤ iAt l j ∧ iAt l j ≤ 4000000
set_option maxRecDepth 4000 in
theorem mild_nil : Mild [] := fun _ h => absurd h (Nat.not_lt_zero _)
set_option maxRecDepth 4000 in
theorem mild_one {x : Int} (h : -4000000 ≤ x ∧ x ≤ 4000000) : Mild [x] := fun j hj => by
  obtain rfl : j = 0 := by simp at hj; omega
  exact h
set_option maxRecDepth 4000 in
theorem mild_two {x y : Int} (h : -4000000 ≤ x ∧ x ≤ 4000000) (h2 : -4000000 ≤ y ∧ y ≤ 4000000) : Mild [x, y] := fun j hj => by
  rcases (show j = 0 ∨ j = 1 by simp at hj; omega) with rfl | rfl
  · exact h
  · exact h2
set_option maxRecDepth 4000 in
theorem plus_at {W : World} {u v : Value} {l r : List Int} {k : Nat} {z : Int} (hz : (k : Int) = z) (hp : XA W u l) (hq : XA W v r) (hk : r.length ≠ 0 → k + r.length ≤ l.length) (hL : Mild l) (hR : Mild r) : Calls Try.prog 40 #[u, .int .i64 z, v] W (NewP W (plusL l k r)) := by
  subst hz
  obtain ⟨A, n, c, rfl, rfl, h2, _, h3⟩ := hp
  obtain ⟨B, m, d, rfl, rfl, g2, _, g3⟩ := hq
  exact plus_any A B l r _ _ k c d W rfl rfl h2 hk hL hR h3 g3
set_option maxRecDepth 4000 in
theorem rcopy_at {W : World} {u : Value} {l : List Int} (hp : XA W u l) : Calls Try.prog 52 #[u] W (NewP W l) := by
  obtain ⟨A, n, c, rfl, h1, h2, _, h3⟩ := hp
  exact icopy_any A l n c W h1 h2 h3
set_option maxRecDepth 4000 in
theorem xsame_at {W : World} {u v : Value} {l m : List Int} {b : Bool} (hp : XA W u l) (hq : XA W v m) (hs : samI l m = b) : Calls Try.prog 22 #[u, v] W (Still (.bool b) W) := by
  obtain ⟨A, n, c, rfl, rfl, h2, h4, h3⟩ := hp
  obtain ⟨B, k, d, rfl, rfl, g2, g4, g3⟩ := hq
  subst hs
  exact calls_still (isame_any A B l m c d W (by omega) (by omega) h3 g3)
set_option maxRecDepth 4000 in
theorem above_at {W : World} {u v : Value} {l m : List Int} {b : Bool} (hp : XA W u l) (hq : XA W v m) (hs : aboveL l m = b) : Calls Try.prog 58 #[u, v] W (Still (.bool b) W) := by
  obtain ⟨A, n, c, rfl, rfl, h2, h4, h3⟩ := hp
  obtain ⟨B, k, d, rfl, rfl, g2, g4, g3⟩ := hq
  subst hs
  exact calls_still (above_any A B l m c d W (by omega) (by omega) h3 g3)
set_option maxRecDepth 4000 in
theorem left_at {W : World} {u v : Value} {l m : List Int} {b : Bool} (hp : XA W u l) (hq : XA W v m) (hs : leftL l m = b) : Calls Try.prog 57 #[u, v] W (Still (.bool b) W) := by
  obtain ⟨A, n, c, rfl, rfl, h2, h4, h3⟩ := hp
  obtain ⟨B, k, d, rfl, rfl, g2, g4, g3⟩ := hq
  subst hs
  exact calls_still (ileft_any A B l m c d W (by omega) (by omega) h3 g3)
set_option maxRecDepth 4000 in
theorem xrsame_at {W : World} {u v : Value} {l m : List Int} {b : Bool} (hp : XA W u l) (hq : XA W v m) (hs : samI l m = b) : Calls Try.prog 31 #[u, v] W (Still (.bool b) W) := by
  obtain ⟨A, n, c, rfl, rfl, h2, h4, h3⟩ := hp
  obtain ⟨B, k, d, rfl, rfl, g2, g4, g3⟩ := hq
  subst hs
  exact calls_still (irsame_any A B l m c d W (by omega) (by omega) h3 g3)
set_option maxRecDepth 4000 in
theorem xcmp_at {W : World} {u v : Value} {l m : List Int} {b : Int} (hp : XA W u l) (hq : XA W v m) (hs : cmpL l m = b) : Calls Try.prog 72 #[u, v] W (Still (.int .i64 b) W) := by
  obtain ⟨A, n, c, rfl, rfl, h2, h4, h3⟩ := hp
  obtain ⟨B, k, d, rfl, rfl, g2, g4, g3⟩ := hq
  subst hs
  exact calls_still (compare_any A B l m c d W (by omega) (by omega) h3 g3)
set_option maxRecDepth 4000 in
theorem step_b {w0 W w' : World} (h : Below w0.heap.size w0 W) (hb : Below W.heap.size W w') : Below w0.heap.size w0 w' := h.trans (hb.mono h.size)

def two {α : Type} (x y : α) : Nat → α
  | 0 => x
  | _ => y
set_option maxRecDepth 4000 in
theorem concat2 (A1 A2 : Option Addr) (l1 l2 : List Int) (n1 n2 c1 c2 : Nat) (W : World) (t : TypeId) (g : Nat) (hg : g = W.heap.size) (h1 : l1.length = n1) (h2 : l2.length = n2) (m1 : n1 ≤ 1000) (m2 : n2 ≤ 1000)
    (v1 : IL W W.heap.size A1 l1) (v2 : IL W W.heap.size A2 l2) :
    Calls Try.prog 42 #[.slice (some ⟨g, 0, none⟩) 2 2] (W.alloc (.cells #[.slice A1 n1 c1, .slice A2 n2 c2] t)) (NewP W (l1 ++ l2)) := by
  subst hg h1 h2
  have hb := new_below W (.cells #[.slice A1 l1.length c1, .slice A2 l2.length c2] t)
  have e : catL (two l1 l2) 2 = l1 ++ l2 := by simp [catL, two]
  rw [← e]
  refine (concat_any W.heap.size 0 2 2 (two A1 A2) (two l1 l2) (two c1 c2) _ (by omega) (fun k hk => ?_) (fun k hk => ?_) (by simp) (fun k hk => ?_)).mono fun _ _ h => h.old hb
  · match k, hk with
    | 0, _ => exact m1
    | 1, _ => exact m2
  · rw [World.cell?_alloc_at _ _ _ _ rfl]
    match k, hk with
    | 0, _ => simp [two]
    | 1, _ => simp [two]
  · match k, hk with
    | 0, _ => exact v1.later hb
    | 1, _ => exact v2.later hb
set_option maxRecDepth 4000 in
theorem IL.drop {w : World} {B : Nat} {A : Option Addr} {l : List Int} (h : IL w B A l) (n c m : Nat) (hm : m = l.length) (hc : m ≤ c) : IL w B (if c = n then A else A.map (·.add (n * 1))) (l.drop n) := fun hn => by
  have hl : n < l.length := by
    rcases Nat.lt_or_ge n l.length with h | h
    · exact h
    · exact absurd (List.drop_eq_nil_of_le h) hn
  obtain ⟨b, o, rfl, hb, hcell⟩ := h (by rintro rfl; simp at hl)
  rw [if_neg (by omega)]
  refine ⟨b, o + n, by simp [add_plain], hb, fun k hk => ?_⟩
  rw [List.length_drop] at hk
  rw [Nat.add_assoc, hcell _ (by omega), iAt_eq _ k (by rw [List.length_drop]; exact hk), iAt_eq _ (n + k) (by omega), List.getElem_drop]
set_option maxRecDepth 4000 in
/-- What stands behind a place: the address. -/
theorem cut_run (A : Option Addr) (n c k : Nat) (hk : k ≤ n) (hc : n ≤ c) : ∃ D : Option Addr, (∀ (w : World) (B : Nat) (l : List Int), IL w B A l → l.length = n → IL w B D (l.drop k)) ∧
    (∀ W : World, (Instr.slice 22 (.slice A n c) (some (.int .i64 (k : Int))) none none).run Try.prog W = .ok (.slice D (n - k) (c - k)) W) := by
  refine ⟨if c = k then A else A.map (·.add (k * 1)), fun w B xs h hx => h.drop k c n hx.symm hc, fun W => ?_⟩
  have he : Try.prog.elem 22 = 3 := by kernel_rfl
  have hs : ∀ W, (sizeOf 3).run Try.prog W = .ok 1 W := fun _ => by kernel_rfl
  rw [run_slice_l W 22 A n c (by rw [he]; exact Try.underlying22) .i64 _ (by omega) (by omega), he, hs]
  simp [Result.andThen, sliced]

set_option maxRecDepth 4000 in
/-- Numbers of a path that may be, with a bound. -/
theorem small_mild {l : List Int} (h : smallI l = true) : Mild l := fun j hj => by
  have := (smallI_iff l).1 h j hj
  omega

end Go.Proofs.Ytdjajpookmmafaa
