/- Trees as plain data: what each call answers. Trees in memory: what a node's value and its cells hold, carried over whatever leaves old blocks as they were. Type, and the document's; what is wrong with one node. What is wrong with one node, whatever its Kids are. each: a closure that calls itself goes through a tree; the visit by its contract. each, called with a visit. Size: a visit that counts in a captured variable; the document's Size, that calls itself. Check: a visit that keeps what is wrong in a captured variable; the document's Check. -/
import Derived.Test.YtdjajpookmmafaaPBase
import Derived.Test.YtdjajpookmmafaaGRead
import Derived.Laws.EntriesVeiled
import Derived.Shelf.Abstract
namespace Go.Proofs.Ytdjajpookmmafaa
open Go.RowKit

/-- A tree: leaf or not, properties, text, Kids. -/
inductive NT where
  | mk (lf : Bool) (ps : List Pr) (tx : List Int) (ks : List NT)

def NT.lf : NT → Bool
  | .mk a _ _ _ => a
def NT.ps : NT → List Pr
  | .mk _ a _ _ => a
def NT.tx : NT → List Int
  | .mk _ _ a _ => a
def NT.ks : NT → List NT
  | .mk _ _ _ a => a
set_option maxRecDepth 4000 in
theorem NT.eta (n : NT) : NT.mk n.lf n.ps n.tx n.ks = n := by cases n; rfl

mutual
/-- How great. -/
def sizeT : NT → Nat
  | .mk _ _ tx ks => 1 + tx.length + sizeK ks
def sizeK : List NT → Nat
  | [] => 0
  | k :: r => sizeT k + sizeK r
end
mutual
/-- What it says. -/
def textT : NT → List Int
  | .mk _ _ tx ks => tx ++ textK ks
def textK : List NT → List Int
  | [] => []
  | k :: r => textT k ++ textK r
end
/-- What is wrong with one node; with a tree, but for its size. -/
def oneE (lf : Bool) (ps : List Pr) (tx : List Int) (nk : Nat) : Int :=
  if chk ps ≠ 0 then chk ps else if (lf && decide (0 < nk) || !lf && decide (0 < tx.length)) = true then 7 else chkL tx
mutual
def chkT : NT → Int
  | .mk lf ps tx ks => if oneE lf ps tx ks.length ≠ 0 then oneE lf ps tx ks.length else chkK ks
def chkK : List NT → Int
  | [] => 0
  | k :: r => if chkT k ≠ 0 then chkT k else chkK r
end
/-- What is wrong with a tree: the size is told as an int tells it. -/
def checkT (n : NT) : Int := if 1048576 < wrap64 (sizeT n) then 2 else chkT n
/-- A tree's type. -/
def tyKey : ByteArray := { data := #[116, 121, 112, 101] }
def typeT (lf : Bool) (ps : List Pr) : ByteArray := if lf then ByteArray.empty else getV ps tyKey
/-- Are two trees the same? -/
noncomputable def eqT (a b : NT) : Bool := @decide (a = b) (Classical.propDecidable _)
set_option maxRecDepth 4000 in
theorem eqT_self (a : NT) : eqT a a = true := by unfold eqT; exact @decide_eq_true _ (Classical.propDecidable _) rfl
set_option maxRecDepth 4000 in
theorem eqT_yes {a b : NT} (h : a = b) : eqT a b = true := by subst h; exact eqT_self a
set_option maxRecDepth 4000 in
theorem eqT_no {a b : NT} (h : a ≠ b) : eqT a b = false := by unfold eqT; exact @decide_eq_false _ (Classical.propDecidable _) h
set_option maxRecDepth 4000 in
theorem eqT_comm (a b : NT) : eqT a b = eqT b a := by
  rcases Classical.em (a = b) with h | h
  · rw [eqT_yes h, eqT_yes h.symm]
  · rw [eqT_no h, eqT_no (fun e => h e.symm)]

set_option maxRecDepth 4000 in
theorem sizeK_append (a b : List NT) : sizeK (a ++ b) = sizeK a + sizeK b := by
  induction a with
  | nil => simp [sizeK]
  | cons x r ih => simp only [List.cons_append, sizeK, ih]; omega
set_option maxRecDepth 4000 in
theorem textK_append (a b : List NT) : textK (a ++ b) = textK a ++ textK b := by
  induction a with
  | nil => simp [textK]
  | cons x r ih => simp only [List.cons_append, textK, ih, List.append_assoc]
set_option maxRecDepth 4000 in
theorem take_one {α : Type} {l : List α} {k : Nat} {x : α} (h : l[k]? = some x) : l.take (k + 1) = l.take k ++ [x] := by
  rw [List.take_add_one, h]; rfl
set_option maxRecDepth 4000 in
theorem drop_one {α : Type} {l : List α} {k : Nat} {x : α} (h : l[k]? = some x) : l.drop k = x :: l.drop (k + 1) := by
  obtain ⟨h1, h2⟩ := List.getElem?_eq_some_iff.1 h
  rw [List.drop_eq_getElem_cons h1, h2]
set_option maxRecDepth 4000 in
theorem sizeK_take {ks : List NT} {k : Nat} {n : NT} (h : ks[k]? = some n) : sizeK (ks.take (k + 1)) = sizeK (ks.take k) + sizeT n := by
  rw [take_one h, sizeK_append]; simp [sizeK]
set_option maxRecDepth 4000 in
theorem textK_take {ks : List NT} {k : Nat} {n : NT} (h : ks[k]? = some n) : textK (ks.take (k + 1)) = textK (ks.take k) ++ textT n := by
  rw [take_one h, textK_append]; simp [textK]
set_option maxRecDepth 4000 in
mutual
theorem textT_le : ∀ n : NT, (textT n).length ≤ sizeT n
  | .mk _ _ tx ks => by have := textK_le ks; simp only [textT, sizeT, List.length_append]; omega
theorem textK_le : ∀ l : List NT, (textK l).length ≤ sizeK l
  | [] => by simp [textK]
  | k :: r => by have h1 := textT_le k; have h2 := textK_le r; simp only [textK, sizeK, List.length_append]; omega
end
set_option maxRecDepth 4000 in
theorem sizeT_pos (n : NT) : 1 ≤ sizeT n := by cases n; simp only [sizeT]; omega
set_option maxRecDepth 4000 in
theorem sizeK_mem {ks : List NT} {k : Nat} {n : NT} (h : ks[k]? = some n) : sizeT n ≤ sizeK ks := by
  have h1 := sizeK_take h
  have h2 : sizeK ks = sizeK (ks.take (k + 1)) + sizeK (ks.drop (k + 1)) := by rw [← sizeK_append, List.take_append_drop]
  omega

set_option maxRecDepth 4000 in
theorem chkK_step {ks : List NT} {k : Nat} {n : NT} (h : ks[k]? = some n) (h0 : chkT n = 0) : chkK (ks.drop k) = chkK (ks.drop (k + 1)) := by
  rw [drop_one h, chkK, if_neg (by simp [h0])]
set_option maxRecDepth 4000 in
theorem chkK_stop {ks : List NT} {k : Nat} {n : NT} (h : ks[k]? = some n) (h0 : chkT n ≠ 0) : chkK (ks.drop k) = chkT n := by
  rw [drop_one h, chkK, if_pos h0]
set_option maxRecDepth 4000 in
theorem chkK_end {ks : List NT} {k : Nat} (h : ks.length ≤ k) : chkK (ks.drop k) = 0 := by
  rw [List.drop_eq_nil_of_le h]; rfl

section
variable {σ : Type} (step : σ → NT → Bool × σ)
mutual
/-- A walk through a tree, each node ahead of its Kids, till a visit says that it is enough. -/
def walkT : σ → NT → Bool × σ
  | s, .mk lf ps tx ks => if (step s (.mk lf ps tx ks)).1 = true then walkK (step s (.mk lf ps tx ks)).2 ks else (false, (step s (.mk lf ps tx ks)).2)
def walkK : σ → List NT → Bool × σ
  | s, [] => (true, s)
  | s, k :: r => if (walkT s k).1 = true then walkK (walkT s k).2 r else (false, (walkT s k).2)
end
variable {step}
set_option maxRecDepth 4000 in
theorem walkK_step {s : σ} {ks : List NT} {k : Nat} {n : NT} (h : ks[k]? = some n) (h0 : (walkT step s n).1 = true) : walkK step s (ks.drop k) = walkK step (walkT step s n).2 (ks.drop (k + 1)) := by
  rw [drop_one h, walkK, if_pos h0]
set_option maxRecDepth 4000 in
theorem walkK_stop {s : σ} {ks : List NT} {k : Nat} {n : NT} (h : ks[k]? = some n) (h0 : (walkT step s n).1 = false) : walkK step s (ks.drop k) = (false, (walkT step s n).2) := by
  rw [drop_one h, walkK, if_neg (by simp [h0])]
set_option maxRecDepth 4000 in
theorem walkK_end {s : σ} {ks : List NT} {k : Nat} (h : ks.length ≤ k) : walkK step s (ks.drop k) = (true, s) := by
  rw [List.drop_eq_nil_of_le h]; rfl
end

/-- The three visits. -/
def stepS (z : Int) (n : NT) : Bool × Int := (true, wrap64 (z + (1 + n.tx.length)))
def stepX (l : List Int) (n : NT) : Bool × List Int := (true, l ++ n.tx)
def stepC (_ : Int) (n : NT) : Bool × Int := (oneE n.lf n.ps n.tx n.ks.length == 0, oneE n.lf n.ps n.tx n.ks.length)

set_option maxRecDepth 4000 in
theorem wrap_add (a b : Int) : wrap64 (wrap64 a + b) = wrap64 (a + b) := by unfold wrap64; omega
set_option maxRecDepth 4000 in
theorem wrap_add' (a b : Int) : wrap64 (a + wrap64 b) = wrap64 (a + b) := by unfold wrap64; omega
set_option maxRecDepth 4000 in
theorem wrap_id (a : Int) (h : -9223372036854775808 ≤ a) (h' : a ≤ 9223372036854775807) : wrap64 a = a := by unfold wrap64; omega
set_option maxRecDepth 4000 in
mutual
theorem walk_size : ∀ (n : NT) (z : Int), walkT stepS (wrap64 z) n = (true, wrap64 (z + sizeT n))
  | .mk lf ps tx ks, z => by
    rw [walkT]
    simp only [stepS, NT.tx, if_true]
    rw [wrap_add, walkK_size ks]
    simp only [sizeT]
    congr 2
    omega
theorem walkK_size : ∀ (l : List NT) (z : Int), walkK stepS (wrap64 z) l = (true, wrap64 (z + sizeK l))
  | [], z => by simp [walkK, sizeK]
  | k :: r, z => by
    rw [walkK, walk_size k z]
    simp only [if_true]
    rw [walkK_size r]
    simp only [sizeK]
    congr 2
    omega
end
set_option maxRecDepth 4000 in
mutual
theorem walk_text : ∀ (n : NT) (l : List Int), walkT stepX l n = (true, l ++ textT n)
  | .mk lf ps tx ks, l => by
    rw [walkT]
    simp only [stepX, NT.tx, if_true]
    rw [walkK_text ks]
    simp only [textT, List.append_assoc]
theorem walkK_text : ∀ (ks : List NT) (l : List Int), walkK stepX l ks = (true, l ++ textK ks)
  | [], l => by simp [walkK, textK]
  | k :: r, l => by
    rw [walkK, walk_text k l]
    simp only [if_true]
    rw [walkK_text r]
    simp only [textK, List.append_assoc]
end
set_option maxRecDepth 4000 in
mutual
theorem walk_check : ∀ (n : NT) (e : Int), walkT stepC e n = (chkT n == 0, chkT n)
  | .mk lf ps tx ks, e => by
    rw [walkT, chkT]
    simp only [stepC, NT.lf, NT.ps, NT.tx, NT.ks]
    rcases Classical.em (oneE lf ps tx ks.length = 0) with h | h
    · simp only [h, beq_self_eq_true, if_true, ne_eq, not_true, if_false]
      exact walkK_check ks
    · have h2 : (oneE lf ps tx ks.length == 0) = false := by simp [h]
      simp only [h2, ne_eq, h, not_false_iff, if_true, if_false, Bool.false_eq_true]
theorem walkK_check : ∀ (ks : List NT), walkK stepC 0 ks = (chkK ks == 0, chkK ks)
  | [] => by simp [walkK, chkK]
  | k :: r => by
    rw [walkK, walk_check k 0, chkK]
    rcases Classical.em (chkT k = 0) with h | h
    · simp only [h, beq_self_eq_true, if_true, ne_eq, not_true, if_false]
      exact walkK_check r
    · have h2 : (chkT k == 0) = false := by simp [h]
      simp only [h2, ne_eq, h, not_false_iff, if_true, if_false, Bool.false_eq_true]
end

end Go.Proofs.Ytdjajpookmmafaa

namespace Go.Proofs.Ytdjajpookmmafaa
open Go.RowKit

/-- How many there are of each thing: as many as a slice may hold. -/
def FitN (ps : List Pr) (nt nk pc tc kc : Nat) : Prop := Wide ps ∧ ps.length ≤ 4398046511104 ∧ nt ≤ 35184372088832 ∧ nk ≤ 1759218604441 ∧ ps.length ≤ pc ∧ nt ≤ tc ∧ nk ≤ kc
mutual
/-- As many Kids as may come in. -/
def TightT : NT → Prop
  | .mk _ _ _ ks => ks.length ≤ 1759218604390 ∧ TightK ks
def TightK : List NT → Prop
  | [] => True
  | k :: r => TightT k ∧ TightK r
end
set_option maxRecDepth 4000 in
theorem tightK_of : ∀ {l : List NT}, (∀ (k : Nat) (m : NT), l[k]? = some m → TightT m) → TightK l
  | [], _ => trivial
  | x :: _, h => ⟨h 0 x rfl, tightK_of fun k m hm => h (k + 1) m hm⟩
set_option maxRecDepth 4000 in
theorem tightK_at : ∀ {l : List NT} {k : Nat} {m : NT}, TightK l → l[k]? = some m → TightT m
  | [], _, _, _, h => by simp at h
  | x :: r, 0, m, ht, h => by simp at h; rw [← h]; exact ht.1
  | x :: r, k + 1, m, ht, h => tightK_at (l := r) (k := k) ht.2 (by simpa using h)
set_option maxRecDepth 4000 in
theorem TightT.len {n : NT} (h : TightT n) : n.ks.length ≤ 1759218604390 := by cases n; exact h.1
set_option maxRecDepth 4000 in
theorem TightT.kid {n m : NT} {k : Nat} (h : TightT n) (hm : n.ks[k]? = some m) : TightT m := by cases n; exact tightK_at h.2 hm
/-- The four cells from q on in block b hold the node u. -/
def Cells4 (w : World) (b q : Nat) (u : Value) : Prop :=
  ∃ c0 c1 c2 c3, u = .agg #[c0, c1, c2, c3] ∧ w.cell? ⟨b, q, none⟩ = some c0 ∧ w.cell? ⟨b, q + 1, none⟩ = some c1 ∧ w.cell? ⟨b, q + 2, none⟩ = some c2 ∧ w.cell? ⟨b, q + 3, none⟩ = some c3
/-- The value v is the node n, of depth at most d, all of it below block B. -/
def NodeAt : Nat → World → Nat → Value → NT → Prop
  | 0, _, _, _, _ => False
  | d + 1, w, B, v, n => ∃ PA pc TA tc KA kc, v = .agg #[.bool n.lf, .slice PA n.ps.length pc, .slice TA n.tx.length tc, .slice KA n.ks.length kc] ∧ PL w B PA n.ps ∧ VL w B TA (rv n.tx) ∧ FitN n.ps n.tx.length n.ks.length pc tc kc ∧
      ∀ k m, n.ks[k]? = some m → ∃ b o u, KA = some ⟨b, o, none⟩ ∧ b < B ∧ NodeAt d w B u m ∧ Cells4 w b (o + k * 4) u
/-- The slice at A holds the nodes ks. -/
def Kids (d : Nat) (w : World) (B : Nat) (A : Option Addr) (ks : List NT) : Prop :=
  ∀ k m, ks[k]? = some m → ∃ b o u, A = some ⟨b, o, none⟩ ∧ b < B ∧ NodeAt d w B u m ∧ Cells4 w b (o + k * 4) u

set_option maxRecDepth 4000 in
theorem Cells4.keep {w w' : World} {b q : Nat} {u : Value} (h : Cells4 w b q u) (hk : ∀ p : Addr, p.block = b → w'.cell? p = w.cell? p) : Cells4 w' b q u := by
  obtain ⟨c0, c1, c2, c3, e, h0, h1, h2, h3⟩ := h
  exact ⟨c0, c1, c2, c3, e, (hk _ rfl).trans h0, (hk _ rfl).trans h1, (hk _ rfl).trans h2, (hk _ rfl).trans h3⟩
set_option maxRecDepth 4000 in
theorem NodeAt.keep {w w' : World} {B : Nat} (hk : ∀ p : Addr, p.block < B → w'.cell? p = w.cell? p) : ∀ {d : Nat} {v : Value} {n : NT}, NodeAt d w B v n → NodeAt d w' B v n
  | 0, _, _, h => h
  | d + 1, _, _, ⟨PA, pc, TA, tc, KA, kc, e, hp, ht, hf, hks⟩ => ⟨PA, pc, TA, tc, KA, kc, e, hp.keep hk, ht.keep hk, hf, fun k m hm => by
      obtain ⟨b, o, u, e1, hb, hn, hc⟩ := hks k m hm
      exact ⟨b, o, u, e1, hb, hn.keep hk, hc.keep fun p hp => hk p (by omega)⟩⟩
set_option maxRecDepth 4000 in
theorem NodeAt.more {w : World} {B B' : Nat} (hB : B ≤ B') : ∀ {d : Nat} {v : Value} {n : NT}, NodeAt d w B v n → NodeAt d w B' v n
  | 0, _, _, h => h
  | d + 1, _, _, ⟨PA, pc, TA, tc, KA, kc, e, hp, ht, hf, hks⟩ => ⟨PA, pc, TA, tc, KA, kc, e, hp.more hB, ht.more hB, hf, fun k m hm => by
      obtain ⟨b, o, u, e1, hb, hn, hc⟩ := hks k m hm
      exact ⟨b, o, u, e1, by omega, hn.more hB, hc⟩⟩
set_option maxRecDepth 4000 in
theorem NodeAt.below {w w' : World} {B d : Nat} {v : Value} {n : NT} (h : NodeAt d w B v n) (hb : Below B w w') : NodeAt d w' B v n := h.keep fun _ hp => hb.cell hp
set_option maxRecDepth 4000 in
theorem NodeAt.later {w w' : World} {d : Nat} {v : Value} {n : NT} (h : NodeAt d w w.heap.size v n) (hb : Below w.heap.size w w') : NodeAt d w' w'.heap.size v n := (h.below hb).more hb.size
set_option maxRecDepth 4000 in
theorem Kids.keep {w w' : World} {B d : Nat} {A : Option Addr} {ks : List NT} (h : Kids d w B A ks) (hk : ∀ p : Addr, p.block < B → w'.cell? p = w.cell? p) : Kids d w' B A ks := fun k m hm => by
  obtain ⟨b, o, u, e1, hb, hn, hc⟩ := h k m hm
  exact ⟨b, o, u, e1, hb, hn.keep hk, hc.keep fun p hp => hk p (by omega)⟩
set_option maxRecDepth 4000 in
theorem Kids.below {w w' : World} {B d : Nat} {A : Option Addr} {ks : List NT} (h : Kids d w B A ks) (hb : Below B w w') : Kids d w' B A ks := h.keep fun _ hp => hb.cell hp
set_option maxRecDepth 4000 in
theorem Kids.more {w : World} {B B' d : Nat} {A : Option Addr} {ks : List NT} (h : Kids d w B A ks) (hB : B ≤ B') : Kids d w B' A ks := fun k m hm => by
  obtain ⟨b, o, u, e1, hb, hn, hc⟩ := h k m hm
  exact ⟨b, o, u, e1, by omega, hn.more hB, hc⟩

set_option maxRecDepth 4000 in
/-- A node's parts. -/
theorem NodeAt.open_ {d : Nat} {w : World} {B : Nat} {v : Value} {n : NT} (h : NodeAt d w B v n) : ∃ d' lf ps tx ks PA pc TA tc KA kc, d = d' + 1 ∧ n = .mk lf ps tx ks ∧
    v = .agg #[.bool lf, .slice PA ps.length pc, .slice TA tx.length tc, .slice KA ks.length kc] ∧ PL w B PA ps ∧ VL w B TA (rv tx) ∧ FitN ps tx.length ks.length pc tc kc ∧ Kids d' w B KA ks := by
  cases d with
  | zero => exact h.elim
  | succ d =>
    cases n with
    | mk lf ps tx ks =>
      obtain ⟨PA, pc, TA, tc, KA, kc, e, hp, ht, hf, hks⟩ := h
      exact ⟨d, lf, ps, tx, ks, PA, pc, TA, tc, KA, kc, rfl, rfl, e, hp, ht, hf, hks⟩
set_option maxRecDepth 4000 in
theorem NodeAt.shut {d : Nat} {w : World} {B : Nat} {lf : Bool} {ps : List Pr} {tx : List Int} {ks : List NT} {PA TA KA : Option Addr} {pc tc kc np nt nk : Nat} (hnp : np = ps.length) (hnt : nt = tx.length) (hnk : nk = ks.length) (hp : PL w B PA ps) (ht : VL w B TA (rv tx)) (hf : FitN ps tx.length ks.length pc tc kc) (hks : Kids d w B KA ks) :
    NodeAt (d + 1) w B (.agg #[.bool lf, .slice PA np pc, .slice TA nt tc, .slice KA nk kc]) (.mk lf ps tx ks) := by
  subst hnp hnt hnk
  exact ⟨PA, pc, TA, tc, KA, kc, rfl, hp, ht, hf, hks⟩
set_option maxRecDepth 4000 in
/-- One of the Kids: its cells, written out. -/
theorem Kids.at_ {d : Nat} {w : World} {B : Nat} {A : Option Addr} {ks : List NT} (h : Kids d w B A ks) {k : Nat} (hk : k < ks.length) : ∃ m b o lf PA np pc TA nt tc KA nk kc, ks[k]? = some m ∧ A = some ⟨b, o, none⟩ ∧ b < B ∧
    NodeAt d w B (.agg #[.bool lf, .slice PA np pc, .slice TA nt tc, .slice KA nk kc]) m ∧
    w.cell? ⟨b, o + k * 4, none⟩ = some (.bool lf) ∧ w.cell? ⟨b, o + k * 4 + 1, none⟩ = some (.slice PA np pc) ∧ w.cell? ⟨b, o + k * 4 + 2, none⟩ = some (.slice TA nt tc) ∧ w.cell? ⟨b, o + k * 4 + 3, none⟩ = some (.slice KA nk kc) := by
  obtain ⟨m, hm⟩ : ∃ m, ks[k]? = some m := ⟨_, List.getElem?_eq_getElem hk⟩
  obtain ⟨b, o, u, e, hb, hn, c0, c1, c2, c3, eu, h0, h1, h2, h3⟩ := h k m hm
  have hn' := hn
  obtain ⟨d', lf, ps, tx, ks', PA, pc, TA, tc, KA, kc, _, rfl, ev, _⟩ := hn.open_
  rw [eu] at ev
  simp only [Value.agg.injEq, Array.mk.injEq, List.cons.injEq, and_true] at ev
  obtain ⟨rfl, rfl, rfl, rfl⟩ := ev
  subst eu
  exact ⟨_, b, o, lf, PA, _, pc, TA, _, tc, KA, _, kc, hm, e, hb, hn', h0, h1, h2, h3⟩

set_option maxRecDepth 4000 in
/-- A node in a variable of the call's own, behind a call that leaves it. -/
theorem box4 {w w' : World} {a b c d : Value} {t : TypeId} (hb : Below (w.alloc (.cells #[a, b, c, d] t)).heap.size (w.alloc (.cells #[a, b, c, d] t)) w') :
    w'.cell? ⟨w.heap.size, 0, none⟩ = some a ∧ w'.cell? ⟨w.heap.size, 1, none⟩ = some b ∧ w'.cell? ⟨w.heap.size, 2, none⟩ = some c ∧ w'.cell? ⟨w.heap.size, 3, none⟩ = some d := by
  refine ⟨?_, ?_, ?_, ?_⟩ <;> (rw [hb.cell (by simp), World.cell?_alloc_at _ _ _ _ rfl]; rfl)

end Go.Proofs.Ytdjajpookmmafaa

namespace Go.Proofs.Ytdjajpookmmafaa
open Go.RowKit

theorem ret_str {a b : ByteArray} (h : a = b) : Ending.returned (.string a) = .returned (.string b) := by rw [h]

end Go.Proofs.Ytdjajpookmmafaa

namespace Go.Proofs.Ytdjajpookmmafaa
open Go.RowKit

theorem oneE_prop {lf : Bool} {ps : List Pr} {tx : List Int} {nk : Nat} (h : chk ps ≠ 0) : oneE lf ps tx nk = chk ps := by unfold oneE; rw [if_pos h]
set_option maxRecDepth 4000 in
theorem oneE_leaf {lf : Bool} {ps : List Pr} {tx : List Int} {nk : Nat} (h : chk ps = 0) (h1 : lf = true ∧ 0 < nk ∨ lf = false ∧ 0 < tx.length) : oneE lf ps tx nk = 7 := by
  unfold oneE; rw [if_neg (by simp [h]), if_pos]
  rcases h1 with ⟨rfl, h1⟩ | ⟨rfl, h1⟩ <;> simp [h1]
set_option maxRecDepth 4000 in
theorem oneE_text {lf : Bool} {ps : List Pr} {tx : List Int} {nk : Nat} (h : chk ps = 0) (h1 : lf = true ∧ nk = 0 ∨ lf = false ∧ tx.length = 0) : oneE lf ps tx nk = chkL tx := by
  unfold oneE; rw [if_neg (by simp [h]), if_neg]
  rcases h1 with ⟨rfl, h1⟩ | ⟨rfl, h1⟩ <;> simp [h1]

end Go.Proofs.Ytdjajpookmmafaa

namespace Go.Proofs.Ytdjajpookmmafaa
open Go.RowKit

/-- What a visit may change of what is there: block g, and block O, which it may leave for a new one, O'. -/
structure Eff (g : Nat) (O O' : Option Nat) (w w' : World) : Prop where
  below : Below g w w'
  size : w.heap.size ≤ w'.heap.size
  cell : ∀ p : Addr, p.block < w.heap.size → p.block ≠ g → some p.block ≠ O → w'.cell? p = w.cell? p
  own : O' = O ∨ ∃ j, O' = some j ∧ w.heap.size ≤ j
set_option maxRecDepth 4000 in
theorem Eff.refl (g : Nat) (O : Option Nat) (w : World) : Eff g O O w w := ⟨Below.refl _ _, Nat.le_refl _, fun _ _ _ _ => rfl, .inl rfl⟩
set_option maxRecDepth 4000 in
theorem Eff.trans {g : Nat} {O O' O'' : Option Nat} {w w' w'' : World} (h : Eff g O O' w w') (h' : Eff g O' O'' w' w'') : Eff g O O'' w w'' :=
  ⟨h.below.trans h'.below, Nat.le_trans h.size h'.size, fun p hp hg hO => by
    have hs := h.size
    rw [h'.cell p (by omega) hg (by
      rcases h.own with e | ⟨j, e, hj⟩
      · rw [e]; exact hO
      · rw [e]; intro e2; injection e2 with e2; omega)]
    exact h.cell p hp hg hO, by
    have hs := h.size
    rcases h'.own with e | ⟨j, e, hj⟩
    · rw [e]; exact h.own
    · exact .inr ⟨j, e, by omega⟩⟩
set_option maxRecDepth 4000 in
theorem Eff.alloc {g : Nat} {O O' : Option Nat} {w w' : World} (h : Eff g O O' w w') (hg : g ≤ w'.heap.size) (o : Obj) : Eff g O O' w (w'.alloc o) :=
  ⟨h.below.alloc hg o, by have := h.size; simp; omega, fun p hp hg hO => by
    have hs := h.size
    rw [World.cell?_alloc_lt _ _ p (by omega)]; exact h.cell p hp hg hO, h.own⟩

/-- What a visit leaves. -/
def Did {σ : Type} (g : Nat) (Q : σ → Option Nat → World → Prop) (O : Option Nat) (r : Bool × σ) (w : World) (e : Ending) (w' : World) : Prop :=
  e = .returned (.bool r.1) ∧ ∃ O', Q r.2 O' w' ∧ Eff g O O' w w'
/-- What a visit does; N: from where on its own block lies. -/
structure Visit {σ : Type} (fv : FuncId) (g N : Nat) (step : σ → NT → Bool × σ) (Q : σ → Option Nat → World → Prop) (pre : σ → NT → Prop) (preK : σ → List NT → Prop) : Prop where
  enters : ∀ args w, (callFunc fv args).run Try.prog w = .ok (.enter fv args) w
  valid : ∀ s O w, Q s O w → ∀ j, O = some j → N ≤ j ∧ j < w.heap.size
  later : ∀ s O w o, N ≤ w.heap.size → Q s O w → Q s O (w.alloc o)
  kids : ∀ s lf ps tx ks, pre s (.mk lf ps tx ks) → (step s (.mk lf ps tx ks)).1 = true → preK (step s (.mk lf ps tx ks)).2 ks
  next : ∀ s m r, preK s (m :: r) → pre s m ∧ ((walkT step s m).1 = true → preK (walkT step s m).2 r)
  does : ∀ d w v n s O, pre s n → Q s O w → N ≤ w.heap.size → NodeAt d w g v n → Calls Try.prog fv #[v, .pointer (some ⟨g, 0, none⟩)] w (Did g Q O (step s n) w)

set_option maxRecDepth 4000 in
theorem did_ret {σ : Type} {g : Nat} {Q : σ → Option Nat → World → Prop} {r : Bool × σ} {b : Bool} {s : σ} {O O' : Option Nat} {w w' : World} (h : r = (b, s)) (hq : Q s O' w') (ha : Eff g O O' w w') : Did g Q O r w (.returned (.bool b)) w' := by
  subst h; exact ⟨rfl, O', hq, ha⟩

set_option maxRecDepth 4000 in
/-- A node in a variable of the call's own, behind a visit that leaves it. -/
theorem box4e {g : Nat} {O O' : Option Nat} {w w' : World} {a b c d : Value} {t : TypeId} (hg : g < w.heap.size) (hO : ∀ j, O = some j → j < w.heap.size) (hb : Eff g O O' (w.alloc (.cells #[a, b, c, d] t)) w') :
    w'.cell? ⟨w.heap.size, 0, none⟩ = some a ∧ w'.cell? ⟨w.heap.size, 1, none⟩ = some b ∧ w'.cell? ⟨w.heap.size, 2, none⟩ = some c ∧ w'.cell? ⟨w.heap.size, 3, none⟩ = some d := by
  refine ⟨?_, ?_, ?_, ?_⟩ <;> (rw [hb.cell _ (by simp) (by simp; omega) (by intro e; have := hO _ e.symm; simp at this), World.cell?_alloc_at _ _ _ _ rfl]; rfl)

end Go.Proofs.Ytdjajpookmmafaa

namespace Go.Proofs.Ytdjajpookmmafaa
open Go.RowKit

/-- What a call of 'each' leaves: the visit's state behind the walk. -/
def Gone {σ : Type} (g : Nat) (Q : σ → Option Nat → World → Prop) (s : σ) (w : World) (e : Ending) (w' : World) : Prop :=
  e = .returned (.tuple #[]) ∧ ∃ O', Q s O' w' ∧ Below g w w'

end Go.Proofs.Ytdjajpookmmafaa

namespace Go.Proofs.Ytdjajpookmmafaa
open Go.RowKit

/-- Block g is a variable that holds u. -/
def One (t : TypeId) (g : Nat) (u : Value) (w : World) : Prop := w.heap[g]? = some (.cells #[u] t (0, 0))
set_option maxRecDepth 4000 in
theorem One.alloc {t : TypeId} {g : Nat} {u : Value} {w : World} (h : One t g u w) (o : Obj) : One t g u (w.alloc o) := (Below.heap_alloc w o g (lt_of_block h)).trans h
set_option maxRecDepth 4000 in
theorem One.new (t : TypeId) (u : Value) (w : World) : One t w.heap.size u (w.alloc (.cells #[u] t (0, 0))) := by
  show (w.heap.push _)[w.heap.size]? = _
  simp
set_option maxRecDepth 4000 in
theorem One.set {t : TypeId} {g : Nat} {u : Value} {w : World} (h : One t g u w) (x : Value) : One t g x (w.setCell ⟨g, 0, none⟩ x) := one_setCell h
set_option maxRecDepth 4000 in
theorem Eff.setCell {g : Nat} {O O' : Option Nat} {w w' : World} (h : Eff g O O' w w') (x : Value) : Eff g O O' w (w'.setCell ⟨g, 0, none⟩ x) :=
  ⟨h.below.setCell (Nat.le_refl _) x, by have := h.size; simp; omega, fun p hp hg hO => by
    rw [World.cell?_setCell_other _ _ _ _ (by intro e; exact hg (by rw [← e]))]; exact h.cell p hp hg hO, h.own⟩

set_option maxRecDepth 4000 in
theorem wrap_in (a : Int) : -9223372036854775808 ≤ wrap64 a ∧ wrap64 a ≤ 9223372036854775807 := by unfold wrap64; omega
/-- The counter's state. -/
def QS (g : Nat) (z : Int) (O : Option Nat) (w : World) : Prop := O = none ∧ (-9223372036854775808 ≤ z ∧ z ≤ 9223372036854775807) ∧ One 3 g (.int .i64 z) w

set_option maxRecDepth 4000 in
theorem size_start (ks : List NT) {n : Nat} (h : n ≤ 9223372036854775806) : (1 + (n : Int)) = wrap64 (1 + n + sizeK (ks.take 0)) := by
  have e : sizeK (ks.take 0) = 0 := by simp [sizeK]
  rw [e, wrap_id] <;> omega

end Go.Proofs.Ytdjajpookmmafaa

namespace Go.Proofs.Ytdjajpookmmafaa
open Go.RowKit

theorem One.below {t : TypeId} {g : Nat} {u : Value} {w w' : World} (h : One t g u w) (hb : Below w.heap.size w w') : One t g u w' := (hb.block g (lt_of_block h)).trans h
set_option maxRecDepth 4000 in
theorem Eff.of_below {g : Nat} {w w' : World} (hb : Below w.heap.size w w') (hg : g ≤ w.heap.size) : Eff g none none w w' :=
  ⟨hb.mono hg, hb.size, fun _ hp _ _ => hb.cell hp, .inl rfl⟩

set_option maxRecDepth 4000 in
theorem box_lt {w w' : World} {o : Obj} (hb : Below (w.alloc o).heap.size (w.alloc o) w') : w.heap.size < w'.heap.size := by
  have := hb.size; simp at this; omega

/-- What is wrong so far. -/
def QC (g : Nat) (z : Int) (O : Option Nat) (w : World) : Prop := O = none ∧ One 38 g (.int .i64 z) w

set_option maxRecDepth 4000 in
theorem checkT_long {n : NT} (h : 1048576 < wrap64 (sizeT n)) : checkT n = 2 := by unfold checkT; rw [if_pos h]
set_option maxRecDepth 4000 in
theorem checkT_not {n : NT} (h : ¬ 1048576 < wrap64 (sizeT n)) : checkT n = chkT n := by unfold checkT; rw [if_neg h]

end Go.Proofs.Ytdjajpookmmafaa
