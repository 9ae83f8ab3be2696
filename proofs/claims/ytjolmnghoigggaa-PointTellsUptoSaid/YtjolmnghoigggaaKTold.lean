/- What is told: First, Last, Ahead, Behind. -/
import Derived.Test.YtjolmnghoigggaaKFirst
namespace Go.Proofs.Ytjolmnghoigggaa
open Go.RowKit

/-- A new point and an error's number. -/
def ToldPt (B : Nat) (w : World) (p : List Int × Int) (er : Int) (e : Ending) (w' : World) : Prop := ∃ A n c, n = p.1.length ∧ e = .returned (.tuple #[.agg #[.slice A n c, .int .i64 p.2], .int .i64 er]) ∧ OwnI w' B (.slice A n c) p.1 ∧ Below B w w'
def pO (f : List Int → Int) : Option (List Int) → List Int × Int
  | none => ([], 0)
  | some q => (q, f q)
def eO : Option (List Int) → Int
  | none => 14
  | some _ => 0
def Tells (w : World) (P : Option (List Int) → Prop) (f : List Int → Int) (e : Ending) (w' : World) : Prop := ∃ r, P r ∧ ToldPt w.heap.size w (pO f r) (eO r) e w'

set_option maxRecDepth 4000 in
set_option maxHeartbeats 2000000 in
theorem told_yes (B : Nat) (A : Option Addr) (l : List Int) (o : Int) (n c : Nat) (w : World) (hn : l.length = n) (hl : n ≤ 100000000) (hO : OwnI w B (.slice A n c) l) (hB : B ≤ w.heap.size) :
    Calls Try.prog 43 #[.agg #[.slice A n c, .int .i64 o], .bool true] w (ToldPt B w (l.reverse, o) 0) := by
  obtain ⟨W0, hW⟩ : ∃ W0, W0 = (w.alloc (.cells #[.slice A n c, .int .i64 o] 29)).alloc (.cells #[.slice none 0 0, .int .i64 0] 29) := ⟨_, rfl⟩
  have hb0 : Below w.heap.size w W0 := hW ▸ below_mono2 (Below.refl _ _) (Nat.le_refl _)
  have e0 := pt_new w (Obj.cells #[Value.slice A n c, Value.int .i64 o] 29) (Obj.cells #[Value.slice none 0 0, Value.int .i64 0] 29)
  rw [← hW] at e0
  have ho := hO.below hb0
  have HC := hd (reverse_any B A l n c W0 hn hl ho (Nat.le_trans hB hb0.size))
  have HW := hd hW
  have HB0 := hd hb0
  have HX := hd e0.1
  have HY := hd e0.2
  have HN := hd hn
  have HTX := hd (own_type ho.own HX.out (by decide))
  have HTY := hd (own_type ho.own HY.out (by decide))
  obtain ⟨x0, x1, f0, f1⟩ := blk2 HX.out
  obtain ⟨y0, y1, g0, g1⟩ := blk2 HY.out
  clear hn hW hb0 e0 ho hO
  go_enter Try.func43, Try.ntmps43
  go_wp2_with (go_at_call 62; rw [← HW.out]; refine HC.out.mono ?_; rintro e w1 ⟨rfl, ho, hb, hs, hk⟩; have HX1 := hd ((hk _ HTX.out).trans HX.out); have HY1 := hd ((hk _ HTY.out).trans HY.out); have HB1 := hd hb; have HO := hd ho; clear ho hb hs hk x0 x1 f0 f1 y0 y1 g0 g1; obtain ⟨x0, x1, f0, f1⟩ := blk2 HX1.out; obtain ⟨y0, y1, g0, g1⟩ := blk2 HY1.out)
  have hY3 := blk2_both HY1.out (.slice A n c) (.int .i64 o)
  obtain ⟨z0, z1, _, _⟩ := blk2 hY3
  have ho := (HO.out.pt (x := .slice A n c) (y := .int .i64 o) HY1.out).2
  clear x0 x1 f0 f1 y0 y1 g0 g1
  refine bodyPost_ret (v := .tuple #[.agg #[.slice A n c, .int .i64 o], .int .i64 0]) (by simp [results, Try.results43, go_sem, z0, z1]) rfl ⟨A, n, c, by simp [HN.out], rfl, ho, ?_⟩
  exact (((HB0.out.mono hB).trans HB1.out).setCell (by show _ ≤ w.heap.size + 1; omega) _).setCell (by show _ ≤ w.heap.size + 1; omega) _
set_option maxRecDepth 4000 in
theorem told_no (B : Nat) (A : Option Addr) (o : Int) (n c : Nat) (w : World) (hB : B ≤ w.heap.size) :
    Calls Try.prog 43 #[.agg #[.slice A n c, .int .i64 o], .bool false] w (ToldPt B w ([], 0) 14) := by
  obtain ⟨W0, hW⟩ : ∃ W0, W0 = (w.alloc (.cells #[.slice A n c, .int .i64 o] 29)).alloc (.cells #[.slice none 0 0, .int .i64 0] 29) := ⟨_, rfl⟩
  have hb0 : Below w.heap.size w W0 := hW ▸ below_mono2 (Below.refl _ _) (Nat.le_refl _)
  have e0 := pt_new w (Obj.cells #[Value.slice A n c, Value.int .i64 o] 29) (Obj.cells #[Value.slice none 0 0, Value.int .i64 0] 29)
  rw [← hW] at e0
  have HW := hd hW
  have HB0 := hd hb0
  obtain ⟨y0, y1, g0, g1⟩ := blk2 e0.2
  clear hW hb0 e0
  go_enter Try.func43, Try.ntmps43
  go_wp2
  rw [← HW.out]
  refine bodyPost_ret (v := .tuple #[.agg #[.slice none 0 0, .int .i64 0], .int .i64 14]) (by simp [results, Try.results43, go_sem, y0, y1]) rfl ⟨none, 0, 0, rfl, rfl, OwnI.nil _ _, HB0.out.mono hB⟩

set_option maxRecDepth 4000 in
/-- told, of what was found. -/
theorem told_any {w w' : World} {f : List Int → Int} {r : Option (List Int)} {A : Option Addr} {k c : Nat} {o : Int} (hs : ∀ q, r = some q → q.length ≤ 100000000)
    (hb : Below w.heap.size w w') (hq : ∀ q, r = some q → k = q.length ∧ OwnI w' w.heap.size (.slice A k c) q.reverse ∧ o = f q) :
    Calls Try.prog 43 #[.agg #[.slice A k c, .int .i64 o], .bool r.isSome] w' (ToldPt w.heap.size w' (pO f r) (eO r)) := by
  cases r with
  | none => exact told_no _ A o k c w' hb.size
  | some q =>
    obtain ⟨h1, h2, h3⟩ := hq q rfl
    have := told_yes w.heap.size A q.reverse o k c w' (by simp [h1]) (by have := hs q rfl; omega) h2 hb.size
    rw [List.reverse_reverse, h3] at this
    rw [h3]
    exact this
set_option maxRecDepth 4000 in
theorem LastIs.short {n : NT} {F : List Int → Bool} {r : Option (List Int)} (h : LastIs n F r) (hn : sizeT n ≤ 1048576) : ∀ q, r = some q → q.length ≤ 100000000 := fun q hq => by
  subst hq
  have := leafB_short h.1
  omega
set_option maxRecDepth 4000 in
theorem FirstIs.short {n : NT} {F : List Int → Bool} {r : Option (List Int)} (h : FirstIs n F r) (hn : sizeT n ≤ 1048576) : ∀ q, r = some q → q.length ≤ 100000000 := fun q hq => by
  subst hq
  have := leafB_short h.1
  omega

end Go.Proofs.Ytjolmnghoigggaa
