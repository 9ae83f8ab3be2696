/- Points as a law holds them: the calls on two of them, in any later world. -/
import Derived.Test.YtjolmnghoigggaaKShort
namespace Go.Proofs.Ytjolmnghoigggaa
open Go.RowKit

/-- The value v is the point p. -/
def PtAt (w : World) (v : Value) (p : List Int × Int) : Prop := ∃ A n c, v = .agg #[.slice A n c, .int .i64 p.2] ∧ p.1.length = n ∧ n ≤ 10000000 ∧ n ≤ c ∧ IL w w.heap.size A p.1
set_option maxRecDepth 4000 in
theorem PtAt.later {w w' : World} {v : Value} {p : List Int × Int} (h : PtAt w v p) (hb : Below w.heap.size w w') : PtAt w' v p := by
  obtain ⟨A, n, c, e, h1, h2, h3, h4⟩ := h
  exact ⟨A, n, c, e, h1, h2, h3, h4.later hb⟩
set_option maxRecDepth 4000 in
theorem PtAt.of_new {w' : World} {p : List Int × Int} {A : Option Addr} {n c B : Nat} (h : OwnI w' B (.slice A n c) p.1) (hl : p.1.length ≤ 10000000) : PtAt w' (.agg #[.slice A n c, .int .i64 p.2]) p := by
  obtain ⟨A', c', e, h1, _, h2⟩ := h.open_
  injection e with e1 e2 e3
  subst e1 e2 e3
  exact ⟨A, _, c, rfl, rfl, hl, h1, h2⟩
set_option maxRecDepth 4000 in
theorem cmp_at {w W : World} {u v : Value} {p q : List Int × Int} (hb : Below w.heap.size w W) (hp : PtAt w u p) (hq : PtAt w v q) : Calls Try.prog 29 #[u, v] W (Still (.int .i64 (cmpP p q)) W) := by
  obtain ⟨A, n, c, rfl, h1, h2, _, h3⟩ := hp.later hb
  obtain ⟨B, m, d, rfl, g1, g2, _, g3⟩ := hq.later hb
  exact pcompare_any A B p q n m c d W h1 g1 (by omega) (by omega) h3 g3
set_option maxRecDepth 4000 in
theorem same_at {w W : World} {u v : Value} {p q : List Int × Int} (hb : Below w.heap.size w W) (hp : PtAt w u p) (hq : PtAt w v q) : Calls Try.prog 31 #[u, v] W (Still (.bool (samP p q)) W) := by
  obtain ⟨A, n, c, rfl, h1, h2, _, h3⟩ := hp.later hb
  obtain ⟨B, m, d, rfl, g1, g2, _, g3⟩ := hq.later hb
  exact psame_pts A B p q n m c d W h1 g1 (by omega) (by omega) h3 g3
set_option maxRecDepth 4000 in
theorem rcmp_at {w W : World} {u v : Value} {p q : List Int × Int} (hb : Below w.heap.size w W) (hp : PtAt w u p) (hq : PtAt w v q) : Calls Try.prog 30 #[u, v] W (Still (.int .i64 (cmpP p q)) W) := by
  obtain ⟨A, n, c, rfl, h1, h2, _, h3⟩ := hp.later hb
  obtain ⟨B, m, d, rfl, g1, g2, _, g3⟩ := hq.later hb
  exact prcompare_any A B p q n m c d W h1 g1 (by omega) (by omega) h3 g3
set_option maxRecDepth 4000 in
theorem rsame_at {w W : World} {u v : Value} {p q : List Int × Int} (hb : Below w.heap.size w W) (hp : PtAt w u p) (hq : PtAt w v q) : Calls Try.prog 24 #[u, v] W (Still (.bool (samP p q)) W) := by
  obtain ⟨A, n, c, rfl, h1, h2, _, h3⟩ := hp.later hb
  obtain ⟨B, m, d, rfl, g1, g2, _, g3⟩ := hq.later hb
  exact prsame_pts A B p q n m c d W h1 g1 (by omega) (by omega) h3 g3
set_option maxRecDepth 4000 in
theorem cmpP_self (p : List Int × Int) : cmpP p p = 0 := (cmpP_zero p p).2 rfl
set_option maxRecDepth 4000 in
theorem samP_self (p : List Int × Int) : samP p p = true := decide_eq_true rfl

set_option maxRecDepth 4000 in
/-- Three variables of two cells. -/
theorem three_points {w : World} (a b c d e f : Value) (t : TypeId) : ∃ W0, ((w.alloc (.cells #[a, b] t)).alloc (.cells #[c, d] t)).alloc (.cells #[e, f] t) = W0 ∧ Below w.heap.size w W0 ∧ W0.heap.size = w.heap.size + 1 + 1 + 1 ∧
    ∀ W, Below W0.heap.size W0 W → (W.cell? ⟨w.heap.size, 0, none⟩ = some a ∧ W.cell? ⟨w.heap.size, 1, none⟩ = some b ∧ W.cell? ⟨w.heap.size + 1, 0, none⟩ = some c ∧ W.cell? ⟨w.heap.size + 1, 1, none⟩ = some d ∧ W.cell? ⟨w.heap.size + 1 + 1, 0, none⟩ = some e ∧ W.cell? ⟨w.heap.size + 1 + 1, 1, none⟩ = some f) := by
  refine ⟨_, rfl, (below_mono2 (Below.refl _ _) (Nat.le_refl _)).alloc (by simp; omega) _, by simp, fun W h => ?_⟩
  have e0 := three_new w (.cells #[a, b] t) (.cells #[c, d] t) (.cells #[e, f] t)
  have h1 := blk2 (keepBlk e0.1 h)
  have h2 := blk2 (keepBlk e0.2.1 h)
  have h3 := blk2 (keepBlk e0.2.2 h)
  exact ⟨h1.1, h1.2.1, h2.1, h2.2.1, h3.1, h3.2.1⟩
set_option maxRecDepth 4000 in
theorem row_three {w : World} (a0 b0 c0 : Option Addr) (a1 b1 c1 a2 b2 c2 : Nat) (a3 b3 c3 : Int) (t : TypeId) :
    PtRow (w.alloc (.cells #[.slice a0 a1 a2, .int .i64 a3, .slice b0 b1 b2, .int .i64 b3, .slice c0 c1 c2, .int .i64 c3] t)) w.heap.size [(a0, a1, a2, a3), (b0, b1, b2, b3), (c0, c1, c2, c3)] := fun j q hq => by
  have key : ∀ k v, #[Value.slice a0 a1 a2, .int .i64 a3, .slice b0 b1 b2, .int .i64 b3, .slice c0 c1 c2, .int .i64 c3][k]? = some v → (w.alloc (.cells #[.slice a0 a1 a2, .int .i64 a3, .slice b0 b1 b2, .int .i64 b3, .slice c0 c1 c2, .int .i64 c3] t)).cell? ⟨w.heap.size, k, none⟩ = some v := fun k v hk => by
    rw [World.cell?_alloc_at _ _ _ _ rfl]; exact hk
  match j, hq with
  | 0, hq => simp at hq; subst hq; exact ⟨key 0 _ rfl, key 1 _ rfl⟩
  | 1, hq => simp at hq; subst hq; exact ⟨key 2 _ rfl, key 3 _ rfl⟩
  | 2, hq => simp at hq; subst hq; exact ⟨key 4 _ rfl, key 5 _ rfl⟩
  | j + 3, hq => simp at hq

set_option maxRecDepth 4000 in
theorem row_any {w : World} (l : List (Option Addr × Nat × Nat × Int)) (t : TypeId) : PtRow (w.alloc (.cells (l.flatMap fun q => [Value.slice q.1 q.2.1 q.2.2.1, .int .i64 q.2.2.2]).toArray t)) w.heap.size l := fun j q hq => by
  have key : ∀ (l : List (Option Addr × Nat × Nat × Int)) (j : Nat) (q : Option Addr × Nat × Nat × Int), l[j]? = some q → (l.flatMap fun q => [Value.slice q.1 q.2.1 q.2.2.1, .int .i64 q.2.2.2])[j * 2]? = some (.slice q.1 q.2.1 q.2.2.1) ∧ (l.flatMap fun q => [Value.slice q.1 q.2.1 q.2.2.1, .int .i64 q.2.2.2])[j * 2 + 1]? = some (.int .i64 q.2.2.2) := by
    intro l
    induction l with
    | nil => intro j q h; simp at h
    | cons x r ih =>
      intro j q h
      match j, h with
      | 0, h => simp at h; subst h; exact ⟨rfl, rfl⟩
      | j + 1, h =>
        have h' : r[j]? = some q := by simpa using h
        have := ih j q h'
        rw [show (j + 1) * 2 = j * 2 + 1 + 1 by omega]
        exact this
  obtain ⟨h1, h2⟩ := key l j q hq
  constructor
  · rw [World.cell?_alloc_at _ _ _ _ rfl]; simpa using h1
  · rw [World.cell?_alloc_at _ _ _ _ rfl]; simpa using h2

end Go.Proofs.Ytjolmnghoigggaa
