/- Trees in memory: what a node's value and its cells hold, carried over whatever leaves old blocks as they were. -/
import Derived.Test.YtjolmnghoigggaaNTree
import Derived.Laws.EntriesVeiled
namespace Go.Proofs.Ytjolmnghoigggaa
open Go.RowKit

/-- How many there are of each thing: as many as a slice may hold. -/
def FitN (ps : List Pr) (nt nk pc tc kc : Nat) : Prop := Wide ps ∧ ps.length ≤ 4398046511104 ∧ nt ≤ 35184372088832 ∧ nk ≤ 1759218604441 ∧ ps.length ≤ pc ∧ nt ≤ tc ∧ nk ≤ kc
mutual
/-- As many Kids as may come in. -/
def TightT : NT → Prop
  | .mk _ _ _ ks => ks.length ≤ 1759218604390 ∧ TightK ks
def TightK : List NT → Prop
  | [] => True
  | k :: r => TightT k ∧ TightK r
end
set_option maxRecDepth 4000 in
theorem tightK_of : ∀ {l : List NT}, (∀ (k : Nat) (m : NT), l[k]? = some m → TightT m) → TightK l
  | [], _ => trivial
  | x :: _, h => ⟨h 0 x rfl, tightK_of fun k m hm => h (k + 1) m hm⟩
set_option maxRecDepth 4000 in
theorem tightK_at : ∀ {l : List NT} {k : Nat} {m : NT}, TightK l → l[k]? = some m → TightT m
  | [], _, _, _, h => by simp at h
  | x :: r, 0, m, ht, h => by simp at h; rw [← h]; exact ht.1
  | x :: r, k + 1, m, ht, h => tightK_at (l := r) (k := k) ht.2 (by simpa using h)
set_option maxRecDepth 4000 in
theorem TightT.len {n : NT} (h : TightT n) : n.ks.length ≤ 1759218604390 := by cases n; exact h.1
set_option maxRecDepth 4000 in
theorem TightT.kid {n m : NT} {k : Nat} (h : TightT n) (hm : n.ks[k]? = some m) : TightT m := by cases n; exact tightK_at h.2 hm
/-- The four cells from q on in block b hold the node u. -/
def Cells4 (w : World) (b q : Nat) (u : Value) : Prop :=
  ∃ c0 c1 c2 c3, u = .agg #[c0, c1, c2, c3] ∧ w.cell? ⟨b, q, none⟩ = some c0 ∧ w.cell? ⟨b, q + 1, none⟩ = some c1 ∧ w.cell? ⟨b, q + 2, none⟩ = some c2 ∧ w.cell? ⟨b, q + 3, none⟩ = some c3
/-- The value v is the node n, of depth at most d, all of it below block B. -/
def NodeAt : Nat → World → Nat → Value → NT → Prop
  | 0, _, _, _, _ => False
  | d + 1, w, B, v, n => ∃ PA pc TA tc KA kc, v = .agg #[.bool n.lf, .slice PA n.ps.length pc, .slice TA n.tx.length tc, .slice KA n.ks.length kc] ∧ PL w B PA n.ps ∧ VL w B TA (rv n.tx) ∧ FitN n.ps n.tx.length n.ks.length pc tc kc ∧
      ∀ k m, n.ks[k]? = some m → ∃ b o u, KA = some ⟨b, o, none⟩ ∧ b < B ∧ NodeAt d w B u m ∧ Cells4 w b (o + k * 4) u
/-- The slice at A holds the nodes ks. -/
def Kids (d : Nat) (w : World) (B : Nat) (A : Option Addr) (ks : List NT) : Prop :=
  ∀ k m, ks[k]? = some m → ∃ b o u, A = some ⟨b, o, none⟩ ∧ b < B ∧ NodeAt d w B u m ∧ Cells4 w b (o + k * 4) u

set_option maxRecDepth 4000 in
theorem Cells4.keep {w w' : World} {b q : Nat} {u : Value} (h : Cells4 w b q u) (hk : ∀ p : Addr, p.block = b → w'.cell? p = w.cell? p) : Cells4 w' b q u := by
  obtain ⟨c0, c1, c2, c3, e, h0, h1, h2, h3⟩ := h
  exact ⟨c0, c1, c2, c3, e, (hk _ rfl).trans h0, (hk _ rfl).trans h1, (hk _ rfl).trans h2, (hk _ rfl).trans h3⟩
set_option maxRecDepth 4000 in
theorem NodeAt.keep {w w' : World} {B : Nat} (hk : ∀ p : Addr, p.block < B → w'.cell? p = w.cell? p) : ∀ {d : Nat} {v : Value} {n : NT}, NodeAt d w B v n → NodeAt d w' B v n
  | 0, _, _, h => h
  | d + 1, _, _, ⟨PA, pc, TA, tc, KA, kc, e, hp, ht, hf, hks⟩ => ⟨PA, pc, TA, tc, KA, kc, e, hp.keep hk, ht.keep hk, hf, fun k m hm => by
      obtain ⟨b, o, u, e1, hb, hn, hc⟩ := hks k m hm
      exact ⟨b, o, u, e1, hb, hn.keep hk, hc.keep fun p hp => hk p (by omega)⟩⟩
set_option maxRecDepth 4000 in
theorem NodeAt.more {w : World} {B B' : Nat} (hB : B ≤ B') : ∀ {d : Nat} {v : Value} {n : NT}, NodeAt d w B v n → NodeAt d w B' v n
  | 0, _, _, h => h
  | d + 1, _, _, ⟨PA, pc, TA, tc, KA, kc, e, hp, ht, hf, hks⟩ => ⟨PA, pc, TA, tc, KA, kc, e, hp.more hB, ht.more hB, hf, fun k m hm => by
      obtain ⟨b, o, u, e1, hb, hn, hc⟩ := hks k m hm
      exact ⟨b, o, u, e1, by omega, hn.more hB, hc⟩⟩
set_option maxRecDepth 4000 in
theorem NodeAt.below {w w' : World} {B d : Nat} {v : Value} {n : NT} (h : NodeAt d w B v n) (hb : Below B w w') : NodeAt d w' B v n := h.keep fun _ hp => hb.cell hp
set_option maxRecDepth 4000 in
theorem NodeAt.later {w w' : World} {d : Nat} {v : Value} {n : NT} (h : NodeAt d w w.heap.size v n) (hb : Below w.heap.size w w') : NodeAt d w' w'.heap.size v n := (h.below hb).more hb.size
set_option maxRecDepth 4000 in
theorem Kids.keep {w w' : World} {B d : Nat} {A : Option Addr} {ks : List NT} (h : Kids d w B A ks) (hk : ∀ p : Addr, p.block < B → w'.cell? p = w.cell? p) : Kids d w' B A ks := fun k m hm => by
  obtain ⟨b, o, u, e1, hb, hn, hc⟩ := h k m hm
  exact ⟨b, o, u, e1, hb, hn.keep hk, hc.keep fun p hp => hk p (by omega)⟩
set_option maxRecDepth 4000 in
theorem Kids.below {w w' : World} {B d : Nat} {A : Option Addr} {ks : List NT} (h : Kids d w B A ks) (hb : Below B w w') : Kids d w' B A ks := h.keep fun _ hp => hb.cell hp
set_option maxRecDepth 4000 in
theorem Kids.more {w : World} {B B' d : Nat} {A : Option Addr} {ks : List NT} (h : Kids d w B A ks) (hB : B ≤ B') : Kids d w B' A ks := fun k m hm => by
  obtain ⟨b, o, u, e1, hb, hn, hc⟩ := h k m hm
  exact ⟨b, o, u, e1, by omega, hn.more hB, hc⟩

set_option maxRecDepth 4000 in
/-- A node's parts. -/
theorem NodeAt.open_ {d : Nat} {w : World} {B : Nat} {v : Value} {n : NT} (h : NodeAt d w B v n) : ∃ d' lf ps tx ks PA pc TA tc KA kc, d = d' + 1 ∧ n = .mk lf ps tx ks ∧
    v = .agg #[.bool lf, .slice PA ps.length pc, .slice TA tx.length tc, .slice KA ks.length kc] ∧ PL w B PA ps ∧ VL w B TA (rv tx) ∧ FitN ps tx.length ks.length pc tc kc ∧ Kids d' w B KA ks := by
  cases d with
  | zero => exact h.elim
  | succ d =>
    cases n with
    | mk lf ps tx ks =>
      obtain ⟨PA, pc, TA, tc, KA, kc, e, hp, ht, hf, hks⟩ := h
      exact ⟨d, lf, ps, tx, ks, PA, pc, TA, tc, KA, kc, rfl, rfl, e, hp, ht, hf, hks⟩
set_option maxRecDepth 4000 in
theorem NodeAt.shut {d : Nat} {w : World} {B : Nat} {lf : Bool} {ps : List Pr} {tx : List Int} {ks : List NT} {PA TA KA : Option Addr} {pc tc kc np nt nk : Nat} (hnp : np = ps.length) (hnt : nt = tx.length) (hnk : nk = ks.length) (hp : PL w B PA ps) (ht : VL w B TA (rv tx)) (hf : FitN ps tx.length ks.length pc tc kc) (hks : Kids d w B KA ks) :
    NodeAt (d + 1) w B (.agg #[.bool lf, .slice PA np pc, .slice TA nt tc, .slice KA nk kc]) (.mk lf ps tx ks) := by
  subst hnp hnt hnk
  exact ⟨PA, pc, TA, tc, KA, kc, rfl, hp, ht, hf, hks⟩
set_option maxRecDepth 4000 in
/-- One of the Kids: its cells, written out. -/
theorem Kids.at_ {d : Nat} {w : World} {B : Nat} {A : Option Addr} {ks : List NT} (h : Kids d w B A ks) {k : Nat} (hk : k < ks.length) : ∃ m b o lf PA np pc TA nt tc KA nk kc, ks[k]? = some m ∧ A = some ⟨b, o, none⟩ ∧ b < B ∧
    NodeAt d w B (.agg #[.bool lf, .slice PA np pc, .slice TA nt tc, .slice KA nk kc]) m ∧
    w.cell? ⟨b, o + k * 4, none⟩ = some (.bool lf) ∧ w.cell? ⟨b, o + k * 4 + 1, none⟩ = some (.slice PA np pc) ∧ w.cell? ⟨b, o + k * 4 + 2, none⟩ = some (.slice TA nt tc) ∧ w.cell? ⟨b, o + k * 4 + 3, none⟩ = some (.slice KA nk kc) := by
  obtain ⟨m, hm⟩ : ∃ m, ks[k]? = some m := ⟨_, List.getElem?_eq_getElem hk⟩
  obtain ⟨b, o, u, e, hb, hn, c0, c1, c2, c3, eu, h0, h1, h2, h3⟩ := h k m hm
  have hn' := hn
  obtain ⟨d', lf, ps, tx, ks', PA, pc, TA, tc, KA, kc, _, rfl, ev, _⟩ := hn.open_
  rw [eu] at ev
  simp only [Value.agg.injEq, Array.mk.injEq, List.cons.injEq, and_true] at ev
  obtain ⟨rfl, rfl, rfl, rfl⟩ := ev
  subst eu
  exact ⟨_, b, o, lf, PA, _, pc, TA, _, tc, KA, _, kc, hm, e, hb, hn', h0, h1, h2, h3⟩

set_option maxRecDepth 4000 in
/-- A node in a variable of the call's own, behind a call that leaves it. -/
theorem box4 {w w' : World} {a b c d : Value} {t : TypeId} (hb : Below (w.alloc (.cells #[a, b, c, d] t)).heap.size (w.alloc (.cells #[a, b, c, d] t)) w') :
    w'.cell? ⟨w.heap.size, 0, none⟩ = some a ∧ w'.cell? ⟨w.heap.size, 1, none⟩ = some b ∧ w'.cell? ⟨w.heap.size, 2, none⟩ = some c ∧ w'.cell? ⟨w.heap.size, 3, none⟩ = some d := by
  refine ⟨?_, ?_, ?_, ?_⟩ <;> (rw [hb.cell (by simp), World.cell?_alloc_at _ _ _ _ rfl]; rfl)

end Go.Proofs.Ytjolmnghoigggaa
