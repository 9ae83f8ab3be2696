/- Schemas: plain functions and facts; no program is named here. Texts of runes, and strings that tell them, as plain lists: what each call answers. Slices in memory: what a slice's cells hold, carried over whatever leaves old blocks as they were; rows of the call's own, of runes and of bytes. Lists of properties in memory: what a slice's cells hold, carried over whatever leaves old blocks as they were. Trees as plain data: what each call answers. Trees in memory: what a node's value and its cells hold, carried over whatever leaves old blocks as they were. Arguments that are trees, opened: what their cells hold; how great they are. Size: a visit that counts in a captured variable; the document's Size, that calls itself. left and Few: how many more nodes, runes and properties there might be, as ints tell it. Variables that hold a node, a selection, or an operation: their rows of cells, loaded and stored whole. -/
import Derived.Test.YtegaapeaeffgoaaJPSpec
import Derived.Laws.Strings
import Derived.Test.YtegaapeaeffgoaaProg
import Derived.WalkKit
import Derived.WalkLawsBesides
import Derived.WalkSpells
import Derived.LoopTactic
import Derived.Outline
import Derived.Deep.Draws
import Derived.Deep.QuietTactic
import Derived.BigQuiet
import Derived.Below
import Derived.Laws.OwnMore
import Derived.Laws.MakeOwn
import Derived.Maps.AppendAt
import Derived.Deep.AppendLies
import Derived.RegionTactic
import Derived.OwnWalk
import Derived.WideShapes
import Derived.IntWalk
import Derived.Laws.EntriesVeiled
import Derived.Test.YtegaapeaeffgoaaRows
import Derived.ProofKit
import Derived.Deep.Slices
import Derived.SizedLaws
import Derived.OpenShut
import Derived.Test.YtegaapeaeffgoaaJAOpen2
import Derived.Shelf.Abstract
import Derived.Deep.RegionHeld3
import Derived.Laws.AppendOwnNone
import Derived.Laws.IdiomStrings
import Derived.Deep.DeepCutAuto
import Derived.Deep.CutBlock
import Derived.Deep.RegionLaw
import Derived.StillTailTactics
import Derived.ArgAppend
import Derived.Lib.SliceRun
import Derived.Lib.AppendZeros
import Derived.Deep.Cut
import Derived.BigRegion
import Derived.Deep.MidRow
import Derived.Laws.Tables
import Derived.Laws.ResultCell
import Derived.Maps.OwnOps
namespace Go.Proofs.Ytegaapeaeffgoaa
/-! What follows of a schema that may be. -/
section
variable {s : SchT} {r : RuleT} {k : Nm}
set_option maxRecDepth 4000 in
theorem raw_kids {q : RuleT} (hq : q ∈ allT s) {p : PairT} (hp : p ∈ q.kids) : p.ty ∈ rawT s := by
  unfold rawT rawR
  exact List.mem_flatMap.2 ⟨q, hq, List.mem_append.2 (.inr (List.mem_flatMap.2 ⟨p, hp, by simp⟩))⟩
set_option maxRecDepth 4000 in
/-- A type that is no name is none of those of Kids. -/
theorem act_other (h : okSchA s = true) (hk : k ∉ rawT s) {q : RuleT} (hq : q ∈ allT s) : actT q k = actT q noN := by
  rw [actT_none (r := q) (k := k) (fun p hp e => hk (by rw [← e]; exact raw_kids hq hp)), actT_none (fun p hp => nameT_ne (rule_kids (ok_rule h hq) hp).1)]
set_option maxRecDepth 4000 in
/-- What a rule wraps stays, whatever type it has. -/
theorem wrap_any (h : okSch s = true) (hr : r ∈ allT s) (k : Nm) : wrapK s r k = true := by
  unfold okSch at h
  rw [Bool.and_eq_true] at h
  have hw := List.all_eq_true.1 h.2 r hr
  rw [Bool.and_eq_true] at hw
  have hw := hw.1
  unfold wrapsT at hw
  rw [Bool.and_eq_true, List.all_eq_true] at hw
  rcases Classical.em (k ∈ rawT s) with hk | hk
  · exact hw.2 k (by simp [hk])
  · have h0 := hw.2 noN (by simp)
    unfold wrapK at h0 ⊢
    rw [act_other h.1 hk hr]
    unfold keepsT at h0 ⊢
    rw [act_other h.1 hk (ruleT_mem s _)]
    exact h0
set_option maxRecDepth 4000 in
theorem wrap_leaf (h : okSch s = true) (hr : r ∈ allT s) : wrapL s r = true := by
  unfold okSch at h
  rw [Bool.and_eq_true] at h
  have hw := List.all_eq_true.1 h.2 r hr
  rw [Bool.and_eq_true] at hw
  have hw := hw.1
  unfold wrapsT at hw
  rw [Bool.and_eq_true] at hw
  exact hw.1
end

/-! Fills. -/
/-! The order of the classes. -/
end Go.Proofs.Ytegaapeaeffgoaa

namespace Go.Proofs.Ytegaapeaeffgoaa
def atL (l : List Int) (n : Nat) : Int := l.getD n 0

set_option maxRecDepth 4000 in
theorem atL_eq (l : List Int) (n : Nat) (h : n < l.length) : atL l n = l[n] := by unfold atL; simp [h]
end Go.Proofs.Ytegaapeaeffgoaa

namespace Go.Proofs.Ytegaapeaeffgoaa
open Go.RowKit
open Go.WideShapes (add_plain)
/-- The cells of a text of runes, and of bytes. -/
def rv (l : List Int) : List Value := l.map (Value.int .i32)
set_option maxRecDepth 4000 in
theorem rv_len (l : List Int) : (rv l).length = l.length := by simp [rv]
set_option maxRecDepth 4000 in
theorem rv_at (l : List Int) (k : Nat) (h : k < l.length) : (rv l)[k]? = some (.int .i32 (atL l k)) := by simp [rv, atL_eq l k h, h]
end Go.Proofs.Ytegaapeaeffgoaa

namespace Go.Proofs.Ytegaapeaeffgoaa
open Go.RowKit
/-- The texts of a list are no longer than a length can be. -/
def Wide (l : List Pr) : Prop := l.length ≤ 9223372036854775807 ∧ ∀ p ∈ l, p.1.size ≤ 9223372036854775807 ∧ p.2.size ≤ 9223372036854775807
set_option maxRecDepth 4000 in
theorem Wide.at_ {l : List Pr} (h : Wide l) {k : Nat} (hk : k < l.length) : (prAt l k).1.size ≤ 9223372036854775807 ∧ (prAt l k).2.size ≤ 9223372036854775807 := by
  rw [prAt_eq l k hk]; exact h.2 _ (List.getElem_mem hk)

end Go.Proofs.Ytegaapeaeffgoaa

namespace Go.Proofs.Ytegaapeaeffgoaa
open Go.RowKit
def NT.lf : NT → Bool
  | .mk a _ _ _ => a
def NT.ps : NT → List Pr
  | .mk _ a _ _ => a
def NT.tx : NT → List Int
  | .mk _ _ a _ => a
def NT.ks : NT → List NT
  | .mk _ _ _ a => a
mutual
/-- How great. -/
def sizeT : NT → Nat
  | .mk _ _ tx ks => 1 + tx.length + sizeK ks
def sizeK : List NT → Nat
  | [] => 0
  | k :: r => sizeT k + sizeK r
end
set_option maxRecDepth 4000 in
theorem take_one {α : Type} {l : List α} {k : Nat} {x : α} (h : l[k]? = some x) : l.take (k + 1) = l.take k ++ [x] := by
  rw [List.take_add_one, h]; rfl
set_option maxRecDepth 4000 in
theorem drop_one {α : Type} {l : List α} {k : Nat} {x : α} (h : l[k]? = some x) : l.drop k = x :: l.drop (k + 1) := by
  obtain ⟨h1, h2⟩ := List.getElem?_eq_some_iff.1 h
  rw [List.drop_eq_getElem_cons h1, h2]

end Go.Proofs.Ytegaapeaeffgoaa

namespace Go.Proofs.Ytegaapeaeffgoaa
open Go.RowKit

/-- How many there are of each thing: as many as a slice may hold. -/
def FitN (ps : List Pr) (nt nk pc tc kc : Nat) : Prop := Wide ps ∧ ps.length ≤ 4398046511104 ∧ nt ≤ 35184372088832 ∧ nk ≤ 1759218604441 ∧ ps.length ≤ pc ∧ nt ≤ tc ∧ nk ≤ kc
mutual
/-- As many Kids as may come in. -/
def TightT : NT → Prop
  | .mk _ _ _ ks => ks.length ≤ 1759218604390 ∧ TightK ks
def TightK : List NT → Prop
  | [] => True
  | k :: r => TightT k ∧ TightK r
end
set_option maxRecDepth 4000 in
theorem tightK_of : ∀ {l : List NT}, (∀ (k : Nat) (m : NT), l[k]? = some m → TightT m) → TightK l
  | [], _ => trivial
  | x :: _, h => ⟨h 0 x rfl, tightK_of fun k m hm => h (k + 1) m hm⟩
/-- The four cells from q on in block b hold the node u. -/
def Cells4 (w : World) (b q : Nat) (u : Value) : Prop :=
  ∃ c0 c1 c2 c3, u = .agg #[c0, c1, c2, c3] ∧ w.cell? ⟨b, q, none⟩ = some c0 ∧ w.cell? ⟨b, q + 1, none⟩ = some c1 ∧ w.cell? ⟨b, q + 2, none⟩ = some c2 ∧ w.cell? ⟨b, q + 3, none⟩ = some c3
/-- The value v is the node n, of depth at most d, all of it below block B. -/
def NodeAt : Nat → World → Nat → Value → NT → Prop
  | 0, _, _, _, _ => False
  | d + 1, w, B, v, n => ∃ PA pc TA tc KA kc, v = .agg #[.bool n.lf, .slice PA n.ps.length pc, .slice TA n.tx.length tc, .slice KA n.ks.length kc] ∧ PL w B PA n.ps ∧ VL w B TA (rv n.tx) ∧ FitN n.ps n.tx.length n.ks.length pc tc kc ∧
      ∀ k m, n.ks[k]? = some m → ∃ b o u, KA = some ⟨b, o, none⟩ ∧ b < B ∧ NodeAt d w B u m ∧ Cells4 w b (o + k * 4) u
/-- The slice at A holds the nodes ks. -/
def Kids (d : Nat) (w : World) (B : Nat) (A : Option Addr) (ks : List NT) : Prop :=
  ∀ k m, ks[k]? = some m → ∃ b o u, A = some ⟨b, o, none⟩ ∧ b < B ∧ NodeAt d w B u m ∧ Cells4 w b (o + k * 4) u

set_option maxRecDepth 4000 in
theorem Cells4.keep {w w' : World} {b q : Nat} {u : Value} (h : Cells4 w b q u) (hk : ∀ p : Addr, p.block = b → w'.cell? p = w.cell? p) : Cells4 w' b q u := by
  obtain ⟨c0, c1, c2, c3, e, h0, h1, h2, h3⟩ := h
  exact ⟨c0, c1, c2, c3, e, (hk _ rfl).trans h0, (hk _ rfl).trans h1, (hk _ rfl).trans h2, (hk _ rfl).trans h3⟩
set_option maxRecDepth 4000 in
theorem NodeAt.keep {w w' : World} {B : Nat} (hk : ∀ p : Addr, p.block < B → w'.cell? p = w.cell? p) : ∀ {d : Nat} {v : Value} {n : NT}, NodeAt d w B v n → NodeAt d w' B v n
  | 0, _, _, h => h
  | d + 1, _, _, ⟨PA, pc, TA, tc, KA, kc, e, hp, ht, hf, hks⟩ => ⟨PA, pc, TA, tc, KA, kc, e, hp.keep hk, ht.keep hk, hf, fun k m hm => by
      obtain ⟨b, o, u, e1, hb, hn, hc⟩ := hks k m hm
      exact ⟨b, o, u, e1, hb, hn.keep hk, hc.keep fun p hp => hk p (by omega)⟩⟩
set_option maxRecDepth 4000 in
theorem NodeAt.more {w : World} {B B' : Nat} (hB : B ≤ B') : ∀ {d : Nat} {v : Value} {n : NT}, NodeAt d w B v n → NodeAt d w B' v n
  | 0, _, _, h => h
  | d + 1, _, _, ⟨PA, pc, TA, tc, KA, kc, e, hp, ht, hf, hks⟩ => ⟨PA, pc, TA, tc, KA, kc, e, hp.more hB, ht.more hB, hf, fun k m hm => by
      obtain ⟨b, o, u, e1, hb, hn, hc⟩ := hks k m hm
      exact ⟨b, o, u, e1, by omega, hn.more hB, hc⟩⟩
set_option maxRecDepth 4000 in
theorem NodeAt.below {w w' : World} {B d : Nat} {v : Value} {n : NT} (h : NodeAt d w B v n) (hb : Below B w w') : NodeAt d w' B v n := h.keep fun _ hp => hb.cell hp
set_option maxRecDepth 4000 in
theorem NodeAt.later {w w' : World} {d : Nat} {v : Value} {n : NT} (h : NodeAt d w w.heap.size v n) (hb : Below w.heap.size w w') : NodeAt d w' w'.heap.size v n := (h.below hb).more hb.size
set_option maxRecDepth 4000 in
theorem Kids.keep {w w' : World} {B d : Nat} {A : Option Addr} {ks : List NT} (h : Kids d w B A ks) (hk : ∀ p : Addr, p.block < B → w'.cell? p = w.cell? p) : Kids d w' B A ks := fun k m hm => by
  obtain ⟨b, o, u, e1, hb, hn, hc⟩ := h k m hm
  exact ⟨b, o, u, e1, hb, hn.keep hk, hc.keep fun p hp => hk p (by omega)⟩
set_option maxRecDepth 4000 in
theorem Kids.below {w w' : World} {B d : Nat} {A : Option Addr} {ks : List NT} (h : Kids d w B A ks) (hb : Below B w w') : Kids d w' B A ks := h.keep fun _ hp => hb.cell hp
set_option maxRecDepth 4000 in
/-- A node's parts. -/
theorem NodeAt.open_ {d : Nat} {w : World} {B : Nat} {v : Value} {n : NT} (h : NodeAt d w B v n) : ∃ d' lf ps tx ks PA pc TA tc KA kc, d = d' + 1 ∧ n = .mk lf ps tx ks ∧
    v = .agg #[.bool lf, .slice PA ps.length pc, .slice TA tx.length tc, .slice KA ks.length kc] ∧ PL w B PA ps ∧ VL w B TA (rv tx) ∧ FitN ps tx.length ks.length pc tc kc ∧ Kids d' w B KA ks := by
  cases d with
  | zero => exact h.elim
  | succ d =>
    cases n with
    | mk lf ps tx ks =>
      obtain ⟨PA, pc, TA, tc, KA, kc, e, hp, ht, hf, hks⟩ := h
      exact ⟨d, lf, ps, tx, ks, PA, pc, TA, tc, KA, kc, rfl, rfl, e, hp, ht, hf, hks⟩
set_option maxRecDepth 4000 in
theorem NodeAt.shut {d : Nat} {w : World} {B : Nat} {lf : Bool} {ps : List Pr} {tx : List Int} {ks : List NT} {PA TA KA : Option Addr} {pc tc kc np nt nk : Nat} (hnp : np = ps.length) (hnt : nt = tx.length) (hnk : nk = ks.length) (hp : PL w B PA ps) (ht : VL w B TA (rv tx)) (hf : FitN ps tx.length ks.length pc tc kc) (hks : Kids d w B KA ks) :
    NodeAt (d + 1) w B (.agg #[.bool lf, .slice PA np pc, .slice TA nt tc, .slice KA nk kc]) (.mk lf ps tx ks) := by
  subst hnp hnt hnk
  exact ⟨PA, pc, TA, tc, KA, kc, rfl, hp, ht, hf, hks⟩
set_option maxRecDepth 4000 in
/-- One of the Kids: its cells, written out. -/
theorem Kids.at_ {d : Nat} {w : World} {B : Nat} {A : Option Addr} {ks : List NT} (h : Kids d w B A ks) {k : Nat} (hk : k < ks.length) : ∃ m b o lf PA np pc TA nt tc KA nk kc, ks[k]? = some m ∧ A = some ⟨b, o, none⟩ ∧ b < B ∧
    NodeAt d w B (.agg #[.bool lf, .slice PA np pc, .slice TA nt tc, .slice KA nk kc]) m ∧
    w.cell? ⟨b, o + k * 4, none⟩ = some (.bool lf) ∧ w.cell? ⟨b, o + k * 4 + 1, none⟩ = some (.slice PA np pc) ∧ w.cell? ⟨b, o + k * 4 + 2, none⟩ = some (.slice TA nt tc) ∧ w.cell? ⟨b, o + k * 4 + 3, none⟩ = some (.slice KA nk kc) := by
  obtain ⟨m, hm⟩ : ∃ m, ks[k]? = some m := ⟨_, List.getElem?_eq_getElem hk⟩
  obtain ⟨b, o, u, e, hb, hn, c0, c1, c2, c3, eu, h0, h1, h2, h3⟩ := h k m hm
  have hn' := hn
  obtain ⟨d', lf, ps, tx, ks', PA, pc, TA, tc, KA, kc, _, rfl, ev, _⟩ := hn.open_
  rw [eu] at ev
  simp only [Value.agg.injEq, Array.mk.injEq, List.cons.injEq, and_true] at ev
  obtain ⟨rfl, rfl, rfl, rfl⟩ := ev
  subst eu
  exact ⟨_, b, o, lf, PA, _, pc, TA, _, tc, KA, _, kc, hm, e, hb, hn', h0, h1, h2, h3⟩

set_option maxRecDepth 4000 in
/-- A node in a variable of the call's own, behind a call that leaves it. -/
theorem box4 {w w' : World} {a b c d : Value} {t : TypeId} (hb : Below (w.alloc (.cells #[a, b, c, d] t)).heap.size (w.alloc (.cells #[a, b, c, d] t)) w') :
    w'.cell? ⟨w.heap.size, 0, none⟩ = some a ∧ w'.cell? ⟨w.heap.size, 1, none⟩ = some b ∧ w'.cell? ⟨w.heap.size, 2, none⟩ = some c ∧ w'.cell? ⟨w.heap.size, 3, none⟩ = some d := by
  refine ⟨?_, ?_, ?_, ?_⟩ <;> (rw [hb.cell (by simp), World.cell?_alloc_at _ _ _ _ rfl]; rfl)

end Go.Proofs.Ytegaapeaeffgoaa

namespace Go.Proofs.Ytegaapeaeffgoaa
open Go.ChangeShapes Go.WideShapes Go.RowKit Go.Deep
set_option maxRecDepth 4000 in
theorem cells_rune : Try.prog.cellsOf 21 = 1 := by kernel_rfl
set_option maxRecDepth 4000 in
theorem cells_bool : Try.prog.cellsOf 4 = 1 := by kernel_rfl
set_option maxRecDepth 4000 in
theorem cells_prop : Try.prog.cellsOf 64 = 2 := by kernel_rfl
set_option maxRecDepth 4000 in
theorem cells_node : Try.prog.cellsOf 41 = 4 := by kernel_rfl
set_option maxRecDepth 4000 in
theorem cells_props : Try.prog.cellsOf 37 = 1 := by kernel_rfl
set_option maxRecDepth 4000 in
theorem cells_runes : Try.prog.cellsOf 38 = 1 := by kernel_rfl
set_option maxRecDepth 4000 in
theorem cells_nodes : Try.prog.cellsOf 39 = 1 := by kernel_rfl
set_option maxRecDepth 4000 in
theorem bytes_rune : Try.prog.bytesOf 21 = 4 := by kernel_rfl
set_option maxRecDepth 4000 in
theorem bytes_prop : Try.prog.bytesOf 64 = 32 := by kernel_rfl
set_option maxRecDepth 4000 in
theorem bytes_node : Try.prog.bytesOf 41 = 80 := by kernel_rfl
set_option maxRecDepth 4000 in
theorem fields_prop : Try.prog.underlying 64 = some (.struct (Try.prog.fieldsOf 64)) := by kernel_rfl
set_option maxRecDepth 4000 in
theorem fields_node : Try.prog.underlying 41 = some (.struct (Try.prog.fieldsOf 41)) := by kernel_rfl
set_option maxRecDepth 4000 in
theorem prop_0 : ((Try.prog.fieldsOf 64)[0]?).map (fun f => (f.type, f.offset)) = some (9, 0) := by kernel_rfl
set_option maxRecDepth 4000 in
theorem prop_1 : ((Try.prog.fieldsOf 64)[1]?).map (fun f => (f.type, f.offset)) = some (9, 1) := by kernel_rfl
set_option maxRecDepth 4000 in
theorem node_0 : ((Try.prog.fieldsOf 41)[0]?).map (fun f => (f.type, f.offset)) = some (4, 0) := by kernel_rfl
set_option maxRecDepth 4000 in
theorem node_1 : ((Try.prog.fieldsOf 41)[1]?).map (fun f => (f.type, f.offset)) = some (37, 1) := by kernel_rfl
set_option maxRecDepth 4000 in
theorem node_2 : ((Try.prog.fieldsOf 41)[2]?).map (fun f => (f.type, f.offset)) = some (38, 2) := by kernel_rfl
set_option maxRecDepth 4000 in
theorem node_3 : ((Try.prog.fieldsOf 41)[3]?).map (fun f => (f.type, f.offset)) = some (39, 3) := by kernel_rfl
set_option maxRecDepth 4000 in
theorem size_prop : (Try.prog.fieldsOf 64).size = 2 := by kernel_rfl
set_option maxRecDepth 4000 in
theorem size_node : (Try.prog.fieldsOf 41).size = 4 := by kernel_rfl
set_option maxRecDepth 4000 in
theorem node_types : (Try.prog.fieldsOf 41).toList.map (·.type) = [4, 37, 38, 39] := by kernel_rfl

/-! What the bound gives. -/
section
variable {H : Type}
set_option maxRecDepth 4000 in
theorem bulk_one (d : DataW H) : 1 ≤ Rows.uptoBulk d := by
  cases d with
  | lit l => cases l <;> simp [Rows.uptoBulk]
  | nil => simp [Rows.uptoBulk]
  | ptr d => simp [Rows.uptoBulk]
  | slice elems spare => simp [Rows.uptoBulk]
  | agg parts => simp [Rows.uptoBulk]
  | iface t d => simp [Rows.uptoBulk]
  | map entries => simp [Rows.uptoBulk]
  | held h => simp [Rows.uptoBulk]
set_option maxRecDepth 4000 in
theorem bulk_length (l : List (DataW H)) : l.length ≤ Rows.uptoBulkAll l := by
  induction l with
  | nil => simp [Rows.uptoBulkAll]
  | cons x r ih => have := bulk_one x; simp only [Rows.uptoBulkAll, List.length_cons]; omega
set_option maxRecDepth 4000 in
theorem bulk_kids (q : Nat → NT) : ∀ (l : List (DataW H)) (s : Nat), (∀ i d, l[i]? = some d → sizeT (q (s + i)) ≤ Rows.uptoBulk d) → sizeK ((List.range' s l.length).map q) ≤ Rows.uptoBulkAll l
  | [], s, _ => by simp [sizeK]
  | d :: r, s, h => by
    have h0 := h 0 d rfl
    have h1 := bulk_kids q r (s + 1) (fun i d hd => by have := h (i + 1) d hd; rwa [show s + (i + 1) = s + 1 + i by omega] at this)
    simp only [List.length_cons, List.range'_succ, List.map_cons, sizeK, Rows.uptoBulkAll]
    have h0' : sizeT (q s) ≤ Rows.uptoBulk d := h0
    omega
set_option maxRecDepth 4000 in
theorem weights_all {P : Program} {e : TypeId} : ∀ {l : List (DataW H)} {d : DataW H}, d ∈ l → ∀ n ∈ d.weights P e, n ∈ DataW.weightsAll P e l
  | [], _, h, _, _ => by cases h
  | x :: r, d, h, n, hn => by
    simp only [DataW.weightsAll, List.mem_append]
    rcases List.mem_cons.1 h with rfl | h
    · exact .inl hn
    · exact .inr (weights_all h n hn)
end

section
variable {H : Type} {enc : TypeId × Value → H} {W : World} {base : Nat} {sp : Nat → Bool} {held : Bool}

theorem open_runes {fuel : Nat} {cs : List Value} {x : DataW H × List MemPlace} (h : DataW.trod enc Try.prog W base sp held fuel 38 cs = some x) (hw : ∀ n ∈ x.1.weights Try.prog 38, n ≤ reachBytes) :
    ∃ (A : Option Addr) (l : List Int) (c : Nat), cs = [.slice A l.length c] ∧ l.length ≤ 35184372088832 ∧ l.length ≤ c ∧ VL W W.heap.size A (rv l) ∧ l.length + 1 ≤ Rows.uptoBulk x.1 := by
  rcases open_ints Try.underlying38 Try.underlying21 cells_rune h with ⟨hcs, rfl⟩ | ⟨a, len, cap, zs, hcs, _, hl, hm, hz, rfl, hc, _⟩
  · exact ⟨none, [], 0, hcs, by decide, Nat.le_refl _, VL.nil _ _ _, by simp [Rows.uptoBulk]⟩
  · have hzl : len ≤ zs.length := by rw [hz]; split <;> omega
    have hlen : (zs.take len).length = len := by simp; omega
    have hb := hw ((lits .i32 (zs.take len) (H := H)).length * 4 + (lits .i32 (zs.drop len) (H := H)).length * 4) (by simp [DataW.weights, Try.underlying38, bytes_rune, Nat.add_mul])
    have hl1 : (lits (H := H) .i32 (zs.take len)).length = len := by simp [lits]; omega
    refine ⟨some a, zs.take len, cap, by rw [hlen]; exact hcs, by rw [hlen]; rw [hl1] at hb; unfold reachBytes at hb; omega, by rw [hlen]; exact hl, fun hn => ?_, ?_⟩
    · have h0 : 0 < len := by
        rcases Nat.eq_zero_or_pos len with h | h
        · subst h; simp [rv] at hn
        · exact h
      have hs := cell_spot (hc 0 (by omega))
      simp only [Addr.add, if_true] at hs
      obtain ⟨b, o, s⟩ := a
      obtain rfl : s = none := hs.2
      refine ⟨b, o, rfl, hs.1, fun k u hk => ?_⟩
      have hkl : k < len := by have := (List.getElem?_eq_some_iff.1 hk).1; rw [rv_len, hlen] at this; exact this
      have h1 := hc k (by omega)
      rw [add_plain] at h1
      rw [h1, ← hk, rv_at _ k (by omega), atL_eq _ k (by omega)]
      simp [List.getD, show k < zs.length by omega]
    · rw [hlen]
      have := bulk_length (lits (H := H) .i32 (zs.take len))
      rw [hl1] at this
      simp only [Rows.uptoBulk]
      omega

set_option maxRecDepth 4000 in
theorem open_props {fuel : Nat} {cs : List Value} {x : DataW H × List MemPlace} (h : DataW.trod enc Try.prog W base sp held fuel 37 cs = some x) (hw : ∀ n ∈ x.1.weights Try.prog 37, n ≤ reachBytes) :
    ∃ (A : Option Addr) (l : List Pr) (c : Nat), cs = [.slice A l.length c] ∧ Wide l ∧ l.length ≤ 4398046511104 ∧ l.length ≤ c ∧ PL W W.heap.size A l := by
  rcases DataW.trod_slice Try.underlying37 h with ⟨hcs, _⟩ | ⟨a, len, cap, elems, rest, n, _, hcs, rfl, _, hl, hm, hlen, hel, _, _⟩
  · exact ⟨none, [], 0, hcs, ⟨by decide, by simp⟩, by decide, Nat.le_refl _, PL.nil _ _ _⟩
  · have key : ∀ i, i < len → ∃ q : Pr, q.1.size ≤ maxLen ∧ q.2.size ≤ maxLen ∧ W.cell? (a.add (i * 2)) = some (.string q.1) ∧ W.cell? (a.add (i * 2 + 1)) = some (.string q.2) := by
      intro i him
      have h1 := hel i him
      rw [cells_prop, List.getElem?_eq_getElem (by omega)] at h1
      obtain ⟨cs', hc, ht⟩ := Option.bind_eq_some_iff.1 h1
      obtain ⟨ys, m, _, _, hcl, hyl, hf⟩ := DataW.trod_struct fields_prop ht
      rw [cells_prop] at hcl
      rw [size_prop] at hyl
      obtain ⟨_, _, hat⟩ := World.cells?_some hc
      obtain ⟨f0, e0, g0⟩ := Option.map_eq_some_iff.1 prop_0
      obtain ⟨f1, e1, g1⟩ := Option.map_eq_some_iff.1 prop_1
      have r0 := hf 0 f0 e0
      have r1 := hf 1 f1 e1
      simp only [Prod.mk.injEq] at g0 g1
      rw [g0.1, g0.2, cells_str] at r0
      rw [g1.1, g1.2, cells_str] at r1
      match cs', hcl, ys, hyl with
      | [c0, c1], _, [y0, y1], _ =>
        simp only [List.drop_zero, List.take_succ_cons, List.take_zero, List.drop_succ_cons, List.getElem?_cons_zero, List.getElem?_cons_succ] at r0 r1
        have a0 := hat (i := 0) (by omega)
        have a1 := hat (i := 1) (by omega)
        rw [add_add] at a0 a1
        simp only [List.getElem?_cons_zero, List.getElem?_cons_succ, Nat.add_zero] at a0 a1
        obtain ⟨s0, e0', _, w0⟩ := DataW.trod_string Try.underlying9 r0
        obtain ⟨s1, e1', _, w1⟩ := DataW.trod_string Try.underlying9 r1
        simp only [List.cons.injEq, and_true] at e0' e1'
        subst e0' e1'
        exact ⟨(s0, s1), w0, w1, a0, a1⟩
    obtain ⟨q, hq⟩ := choose_lt key
    have hlen2 : ((List.range len).map q).length = len := by simp
    have hget : ∀ k, k < len → prAt ((List.range len).map q) k = q k := fun k hk => by
      rw [prAt_eq _ k (by simpa using hk)]; simp
    have hb := hw (elems.length * 32 + rest.length * 32) (by simp [DataW.weights, Try.underlying37, bytes_prop, Nat.add_mul])
    refine ⟨some a, (List.range len).map q, cap, by rw [hlen2]; exact hcs, ⟨by rw [hlen2]; unfold maxLen at hm; omega, fun p hp => ?_⟩, by rw [hlen2]; unfold reachBytes at hb; omega, by rw [hlen2]; exact hl, fun hn => ?_⟩
    · obtain ⟨k, hk, rfl⟩ := List.mem_map.1 hp
      have := hq k (List.mem_range.1 hk)
      unfold maxLen at this
      omega
    · have h0 : 0 < len := by
        rcases Nat.eq_zero_or_pos len with h | h
        · subst h; exact absurd rfl hn
        · exact h
      have hs := cell_spot (hq 0 h0).2.2.1
      simp only [Nat.zero_mul, Addr.add, if_true] at hs
      obtain ⟨b, o, s⟩ := a
      obtain rfl : s = none := hs.2
      refine ⟨b, o, rfl, hs.1, fun k hk => ?_⟩
      rw [hlen2] at hk
      rw [hget k hk]
      have h1 := (hq k hk).2.2.1
      have h2 := (hq k hk).2.2.2
      rw [add_plain] at h1 h2
      exact ⟨h1, h2⟩

set_option maxRecDepth 4000 in
theorem NodeAt.deeper {w : World} {B : Nat} : ∀ {d : Nat} {v : Value} {n : NT}, NodeAt d w B v n → NodeAt (d + 1) w B v n
  | 0, _, _, h => h.elim
  | d + 1, _, _, ⟨PA, pc, TA, tc, KA, kc, e, hp, ht, hf, hks⟩ => ⟨PA, pc, TA, tc, KA, kc, e, hp, ht, hf, fun k m hm => by
      obtain ⟨b, o, u, e1, hb, hn, hc⟩ := hks k m hm
      exact ⟨b, o, u, e1, hb, hn.deeper, hc⟩⟩

set_option maxRecDepth 4000 in
/-- A node that came in: its four cells; how great it is. -/
theorem open_node : ∀ (fuel : Nat) (cs : List Value) (x : DataW H × List MemPlace), DataW.trod enc Try.prog W base sp held fuel 41 cs = some x → (∀ n ∈ x.1.weights Try.prog 41, n ≤ reachBytes) →
    ∃ c0 c1 c2 c3 n, cs = [c0, c1, c2, c3] ∧ NodeAt fuel W W.heap.size (.agg #[c0, c1, c2, c3]) n ∧ sizeT n ≤ Rows.uptoBulk x.1 ∧ TightT n := by
  intro fuel
  induction fuel using Nat.strongRecOn with
  | ind fuel ih =>
    intro cs x h hw
    obtain ⟨xs, f1, rfl, rfl, hcl, hxl, hf⟩ := DataW.trod_struct fields_node h
    rw [cells_node] at hcl
    rw [size_node] at hxl
    obtain ⟨t0, e0, g0⟩ := Option.map_eq_some_iff.1 node_0
    obtain ⟨t1, e1, g1⟩ := Option.map_eq_some_iff.1 node_1
    obtain ⟨t2, e2, g2⟩ := Option.map_eq_some_iff.1 node_2
    obtain ⟨t3, e3, g3⟩ := Option.map_eq_some_iff.1 node_3
    simp only [Prod.mk.injEq] at g0 g1 g2 g3
    have r0 := hf 0 t0 e0
    have r1 := hf 1 t1 e1
    have r2 := hf 2 t2 e2
    have r3 := hf 3 t3 e3
    rw [g0.1, g0.2, cells_bool] at r0
    rw [g1.1, g1.2, cells_props] at r1
    rw [g2.1, g2.2, cells_runes] at r2
    rw [g3.1, g3.2, cells_nodes] at r3
    match cs, hcl, xs, hxl with
    | [c0, c1, c2, c3], _, [x0, x1, x2, x3], _ =>
      simp only [List.drop_zero, List.take_succ_cons, List.take_zero, List.drop_succ_cons, List.getElem?_cons_zero, List.getElem?_cons_succ] at r0 r1 r2 r3
      have hwp : ∀ n ∈ DataW.weightsEach Try.prog [4, 37, 38, 39] [x0.1, x1.1, x2.1, x3.1], n ≤ reachBytes := fun n hn => hw n (by
        simp only [DataW.weights, fields_node, node_types, List.map_cons, List.map_nil]; exact hn)
      obtain ⟨lf, k0, _⟩ := DataW.trod_bool Try.underlying4 r0
      obtain ⟨PA, ps, pc, k1, hWd, hpl, hpc, hP⟩ := open_props r1 (fun n hn => hwp n (DataW.weights_mem_each (j := 1) rfl rfl n hn))
      obtain ⟨TA, tx, tc, k2, htl, htc, hT, hTb⟩ := open_runes r2 (fun n hn => hwp n (DataW.weights_mem_each (j := 2) rfl rfl n hn))
      simp only [List.cons.injEq, and_true] at k0 k1 k2
      subst k0 k1 k2
      have hwk := fun n hn => hwp n (DataW.weights_mem_each (j := 3) rfl rfl n hn)
      have hk : ∃ (KA : Option Addr) (ks : List NT) (kc : Nat), c3 = .slice KA ks.length kc ∧ ks.length ≤ 1759218604390 ∧ Kids f1 W W.heap.size KA ks ∧ sizeK ks + 1 ≤ Rows.uptoBulk x3.1 ∧ ks.length ≤ kc ∧ TightK ks := by
        rcases DataW.trod_slice Try.underlying39 r3 with ⟨hcs, rfl⟩ | ⟨a, len, cap, elems, rest, f2, rfl, hcs, rfl, _, hl, hm, hlen, hel, _, _⟩
        · simp only [List.cons.injEq, and_true] at hcs
          exact ⟨none, [], 0, hcs, by decide, fun k m hm => by simp at hm, by simp [sizeK, Rows.uptoBulk], Nat.le_refl _, trivial⟩
        · have key : ∀ i, i < len → ∃ m : NT, (∃ u, NodeAt f2 W W.heap.size u m ∧ ∃ c0 c1 c2 c3, u = .agg #[c0, c1, c2, c3] ∧ W.cell? (a.add (i * 4)) = some c0 ∧ W.cell? (a.add (i * 4 + 1)) = some c1 ∧ W.cell? (a.add (i * 4 + 2)) = some c2 ∧ W.cell? (a.add (i * 4 + 3)) = some c3) ∧ (∀ d, (elems.map (·.1))[i]? = some d → sizeT m ≤ Rows.uptoBulk d) ∧ TightT m := by
            intro i him
            have h1 := hel i him
            have him' : i < elems.length := by omega
            rw [cells_node, List.getElem?_eq_getElem him'] at h1
            obtain ⟨cs', hc, ht⟩ := Option.bind_eq_some_iff.1 h1
            obtain ⟨b0, b1, b2, b3, m, rfl, hn, hs, htg⟩ := ih f2 (by omega) cs' _ ht (fun n hn => hwk n (by
              simp only [DataW.weights, Try.underlying39, List.mem_cons, List.mem_append]
              exact .inr (.inl (weights_all (List.mem_map.2 ⟨_, List.getElem_mem him', rfl⟩) n hn))))
            obtain ⟨_, _, hat⟩ := World.cells?_some hc
            have a0 := hat (i := 0) (by omega)
            have a1 := hat (i := 1) (by omega)
            have a2 := hat (i := 2) (by omega)
            have a3 := hat (i := 3) (by omega)
            rw [add_add] at a0 a1 a2 a3
            simp only [List.getElem?_cons_zero, List.getElem?_cons_succ, Nat.add_zero] at a0 a1 a2 a3
            refine ⟨m, ⟨_, hn, b0, b1, b2, b3, rfl, a0, a1, a2, a3⟩, fun d hd => ?_, htg⟩
            rw [List.getElem?_map, List.getElem?_eq_getElem him'] at hd
            simp only [Option.map_some, Option.some.injEq] at hd
            rw [← hd]; exact hs
          obtain ⟨q, hq⟩ := choose_lt key
          have hlen2 : ((List.range len).map q).length = len := by simp
          have hb := hwk (elems.length * 80 + rest.length * 80) (by simp [DataW.weights, Try.underlying39, bytes_node, Nat.add_mul])
          refine ⟨some a, (List.range len).map q, cap, by rw [hlen2]; simpa using hcs, by rw [hlen2]; unfold reachBytes at hb; omega, fun k m hm => ?_, ?_, by rw [hlen2]; exact hl, tightK_of fun k m hm => ?_⟩
          · have hkl : k < len := by have := (List.getElem?_eq_some_iff.1 hm).1; rwa [hlen2] at this
            rw [List.getElem?_map, List.getElem?_range hkl] at hm
            simp only [Option.map_some, Option.some.injEq] at hm
            subst hm
            obtain ⟨⟨u, hn, d0, d1, d2, d3, eu, a0, a1, a2, a3⟩, _, _⟩ := hq k hkl
            obtain ⟨⟨_, _, _, _, _, _, _, z0, _⟩, _, _⟩ := hq 0 (by omega)
            have hab := cell_spot z0
            simp only [Nat.zero_mul, Addr.add, if_true] at hab
            obtain ⟨b, o, s⟩ := a
            obtain rfl : s = none := hab.2
            rw [add_plain] at a0 a1 a2 a3
            exact ⟨b, o, u, rfl, hab.1, hn.deeper, d0, d1, d2, d3, eu, a0, a1, a2, a3⟩
          · have hbk := bulk_kids q (elems.map (·.1)) 0 (fun i d hd => by
              have hil : i < len := by have := (List.getElem?_eq_some_iff.1 hd).1; simp at this; omega
              rw [Nat.zero_add]
              exact (hq i hil).2.1 d hd)
            rw [List.length_map, hlen, ← List.range_eq_range'] at hbk
            simp only [Rows.uptoBulk]
            omega
          · have hkl : k < len := by have := (List.getElem?_eq_some_iff.1 hm).1; rwa [hlen2] at this
            rw [List.getElem?_map, List.getElem?_range hkl] at hm
            simp only [Option.map_some, Option.some.injEq] at hm
            subst hm
            exact (hq k hkl).2.2
      obtain ⟨KA, ks, kc, rfl, hkl, hK, hKb, hkc, htk⟩ := hk
      refine ⟨_, _, _, _, .mk lf ps tx ks, rfl, NodeAt.shut rfl rfl rfl hP hT ⟨hWd, hpl, htl, by omega, hpc, htc, hkc⟩ hK, ?_, ⟨hkl, htk⟩⟩
      simp only [sizeT, Rows.uptoBulk, Rows.uptoBulkAll, List.map_cons, List.map_nil]
      omega

set_option maxRecDepth 4000 in
/-- A tree that came in. -/
theorem open_tree {r : Reach} {b0 : Nat} {v : Value} {d : DataW H} {p : List MemPlace} (hv : Value.okWide Try.prog W r b0 41 v) (h : DataW.Trod enc Try.prog W base sp held 41 v d p) (hw : ∀ n ∈ d.weights Try.prog 41, n ≤ reachBytes) :
    ∃ f n, NodeAt f W W.heap.size v n ∧ sizeT n ≤ Rows.uptoBulk d ∧ TightT n := by
  obtain ⟨fuel, hf⟩ := h
  obtain ⟨c0, c1, c2, c3, n, hcs, hn, hs, ht⟩ := open_node fuel _ _ hf hw
  obtain ⟨cs, rfl, hcz⟩ := okWide_struct fields_node hv
  have e : cs = #[c0, c1, c2, c3] := by
    apply Array.toList_inj.1
    simpa [Value.cells] using hcs
  subst e
  exact ⟨fuel, n, hn, hs, ht⟩

end

end Go.Proofs.Ytegaapeaeffgoaa

namespace Go.Proofs.Ytegaapeaeffgoaa
open Go.RowKit
set_option maxRecDepth 4000 in
theorem wrap_in (a : Int) : -9223372036854775808 ≤ wrap64 a ∧ wrap64 a ≤ 9223372036854775807 := by unfold wrap64; omega
end Go.Proofs.Ytegaapeaeffgoaa

namespace Go.Proofs.Ytegaapeaeffgoaa
open Go.RowKit

/-- What a property takes; what a list takes; what a tree leaves. -/
def bigP (p : Pr) : Int := (p.1.size : Int) / 64 + (p.2.size : Int) / 64
def propsW (m : Int) (l : List Pr) : Int := l.foldl (fun m p => wrap64 (m - bigP p)) m
mutual
/-- How many more there might be behind a tree, and behind trees. -/
def leftT : Int → NT → Int
  | m, .mk _ ps tx ks => if propsW (wrap64 (m - (1 + tx.length + ps.length))) ps < 0 then -1 else leftK (propsW (wrap64 (m - (1 + tx.length + ps.length))) ps) ks
def leftK : Int → List NT → Int
  | m, [] => m
  | m, k :: r => if leftT m k < 0 then -1 else leftK (leftT m k) r
end
set_option maxRecDepth 4000 in
theorem propsW_take {l : List Pr} {k : Nat} {p : Pr} (m : Int) (h : l[k]? = some p) : propsW m (l.take (k + 1)) = wrap64 (propsW m (l.take k) - bigP p) := by
  unfold propsW; rw [take_one h, List.foldl_append]; rfl
set_option maxRecDepth 4000 in
theorem prAt_get {l : List Pr} {k : Nat} (h : k < l.length) : l[k]? = some (prAt l k) := by
  rw [prAt_eq l k h]; exact List.getElem?_eq_getElem h
def In64 (a : Int) : Prop := -9223372036854775808 ≤ a ∧ a ≤ 9223372036854775807
set_option maxRecDepth 4000 in
theorem propsW_in (l : List Pr) : ∀ m, In64 m → In64 (propsW m l) := by
  induction l with
  | nil => intro m h; exact h
  | cons p r ih => intro m _; exact ih _ (wrap_in _)
set_option maxRecDepth 4000 in
mutual
theorem leftT_in : ∀ (n : NT) (m : Int), In64 (leftT m n)
  | .mk _ ps tx ks, m => by
    rw [leftT]
    split
    · unfold In64; omega
    · exact leftK_in ks _ (propsW_in ps _ (wrap_in _))
theorem leftK_in : ∀ (l : List NT) (m : Int), In64 m → In64 (leftK m l)
  | [], m, h => by rw [leftK]; exact h
  | k :: r, m, h => by
    rw [leftK]
    split
    · unfold In64; omega
    · exact leftK_in r _ (leftT_in k m)
end
set_option maxRecDepth 4000 in
theorem leftK_step {ks : List NT} {k : Nat} {n : NT} {m y : Int} (h : ks[k]? = some n) (hy : leftT m n = y) (h0 : ¬ y < 0) : leftK m (ks.drop k) = leftK y (ks.drop (k + 1)) := by
  subst hy; rw [drop_one h, leftK, if_neg h0]
set_option maxRecDepth 4000 in
theorem leftK_stop {ks : List NT} {k : Nat} {n : NT} {m y : Int} (h : ks[k]? = some n) (hy : leftT m n = y) (h0 : y < 0) : leftK m (ks.drop k) = -1 := by
  subst hy; rw [drop_one h, leftK, if_pos h0]
set_option maxRecDepth 4000 in
theorem leftK_end {ks : List NT} {k : Nat} {m : Int} (h : ks.length ≤ k) : leftK m (ks.drop k) = m := by
  rw [List.drop_eq_nil_of_le h]; rfl

set_option maxRecDepth 4000 in
set_option maxHeartbeats 8000000 in
theorem left_any : ∀ (d : Nat) (w : World) (v : Value) (n : NT) (m : Int), In64 m → NodeAt d w w.heap.size v n →
      Calls Try.prog 29 #[v, .int .i64 m] w (Still (.int .i64 (leftT m n)) w) := by
  intro d
  induction d with
  | zero => intro w v n m _ h; exact h.elim
  | succ d ih =>
    intro w v n m hm hn
    obtain ⟨d1, lf, ps, tx, ks, PA, pc, TA, tc, KA, kc, hd1, rfl, rfl, hp, ht, hf, hks⟩ := hn.open_
    obtain rfl : d = d1 := by omega
    have hb1 : Below w.heap.size w (w.alloc (.cells #[.bool lf, .slice PA ps.length pc, .slice TA tx.length tc, .slice KA ks.length kc] 41)) := (Below.refl _ _).alloc (Nat.le_refl _) _
    have HP := hd hp
    have HKS := hd hks
    have HW := hd hf.1
    have hl1 := hf.2.1
    have hl2 := hf.2.2.1
    have hl3 := hf.2.2.2.1
    obtain ⟨m1, m2⟩ := hm
    obtain ⟨M, hM⟩ : ∃ M, M = wrap64 (m - (1 + tx.length + ps.length)) := ⟨_, rfl⟩
    have HB := hd hb1
    have HF0 := hd (show leftT m (.mk lf ps tx ks) = if propsW M ps < 0 then -1 else leftK (propsW M ps) ks by rw [leftT, hM])
    have hMb := wrap_in (m - (1 + tx.length + ps.length))
    rw [← hM] at hMb
    obtain ⟨M1, M2⟩ := hMb
    have HM := hd hM
    clear hn hp ht hf hks hd1 hM hb1
    go_enter Try.func29, Try.ntmps29
    go_wp2
    go_loopw [1, 22] (fun z i wr => ∃ (k : Nat) (y : Int), k ≤ ps.length ∧ z = .int .i64 y ∧ i = .int .i64 k ∧ Hid (In64 y) ∧ Hid (Below (w.alloc (.cells #[.bool lf, .slice PA ps.length pc, .slice TA tx.length tc, .slice KA ks.length kc] 41)).heap.size (w.alloc (.cells #[.bool lf, .slice PA ps.length pc, .slice TA tx.length tc, .slice KA ks.length kc] 41)) wr) ∧ Hid (y = propsW M (ps.take k))) (fun _ i _ => ps.length - (intOf i).toNat)
    case atStart => exact ⟨0, M, Nat.zero_le _, by rw [HM.out], rfl, ⟨M1, M2⟩, Below.refl _ _, rfl⟩
    case round =>
      obtain ⟨k, y, hk, rfl, rfl, HI, HR, HY⟩ := hrel
      obtain ⟨I1, I2⟩ := HI.out
      have hbr := HB.out.trans (HR.out.mono HB.out.size)
      have hsz := hbr.size
      by_cases hlt : k < ps.length
      · obtain ⟨b, o, rfl, hlb, c1, c2⟩ := (HP.out.below hbr).at_ hlt
        obtain ⟨s1, s2⟩ := HW.out.at_ hlt
        have HY2 := hd (propsW_take M (prAt_get hlt))
        rw [← HY.out] at HY2
        have HBR := hd hbr
        clear hbr
        go_wp2
        go_roundw
        case rel => exact ⟨k + 1, _, by omega, rfl, by go_num, hd (wrap_in _), hd (HR.out.alloc HR.out.size _), hd (by rw [HY2.out]; rfl)⟩
        case measure => simp [intOf]; omega
      · have HE := hd (show y = propsW M ps by rw [HY.out, List.take_of_length_le (by omega)])
        obtain ⟨x0, x1, x2, x3⟩ := box4 HR.out
        clear HY HP HW
        by_cases hneg : y < 0
        · have HF := hd (show leftT m (.mk lf ps tx ks) = -1 by rw [HF0.out, ← HE.out, if_pos hneg])
          go_wp2
          go_ret
          exact ⟨ret_int HF.out.symm, hbr⟩
        · have HF := hd (show leftT m (.mk lf ps tx ks) = leftK y (ks.drop 0) by rw [HF0.out, ← HE.out, if_neg hneg]; rfl)
          have HBR := hd hbr
          clear hbr
          go_wp2
          obtain ⟨wo, hwo⟩ : ∃ wo : World, wo = wr := ⟨_, rfl⟩
          subst hwo
          obtain ⟨yo, hyo⟩ : ∃ yo : Int, yo = y := ⟨_, rfl⟩
          subst hyo
          clear x0 x1 x2 x3 HI HE HF0 HR
          go_loopw [1, 43] (fun z i wr => ∃ (k : Nat) (y : Int), k ≤ ks.length ∧ z = .int .i64 y ∧ i = .int .i64 k ∧ Hid (In64 y) ∧ Hid (Below w.heap.size w wr) ∧ Hid (leftT m (.mk lf ps tx ks) = leftK y (ks.drop k))) (fun _ i _ => ks.length - (intOf i).toNat)
          case atStart => exact ⟨0, yo, Nat.zero_le _, rfl, rfl, ⟨I1, I2⟩, HBR, HF⟩
          case round =>
            clear HF I1 I2 hneg hlt HBR hsz
            obtain ⟨k, y, hk, rfl, rfl, HI, HR, HY⟩ := hrel
            obtain ⟨I1, I2⟩ := HI.out
            have hsz := HR.out.size
            by_cases hlt : k < ks.length
            · obtain ⟨n1, b, o, lf1, PA1, np1, pc1, TA1, nt1, tc1, KA1, nk1, kc1, hn1, rfl, hbg, hnm, c0, c1, c2, c3⟩ := (HKS.out.below HR.out).at_ hlt
              obtain ⟨wk, hwk⟩ : ∃ wk, wk = wr.alloc (.cells #[.bool lf1, .slice PA1 np1 pc1, .slice TA1 nt1 tc1, .slice KA1 nk1 kc1] 41) := ⟨_, rfl⟩
              have hbk : Below w.heap.size w wk := hwk ▸ HR.out.alloc (by omega) _
              have hbk2 : Below wr.heap.size wr wk := hwk ▸ (Below.refl _ _).alloc (Nat.le_refl _) _
              have HC := hd (ih wk _ n1 y ⟨I1, I2⟩ (((hnm.more hsz).below hbk2).more hbk2.size))
              have HK := hd hbk
              obtain ⟨x, hx⟩ : ∃ x, leftT y n1 = x := ⟨_, rfl⟩
              have hxi := leftT_in n1 y
              rw [hx] at HC hxi
              have HXI := hd hxi
              by_cases hx0 : x < 0
              · have HG := hd (HY.out.trans (leftK_stop hn1 hx hx0))
                subst hwk
                clear hn1 hnm hbk hbk2 hx HKS HY hxi
                go_wp2_with (first | (refine HC.out.mono ?_; rintro e w' ⟨rfl, hb'⟩))
                go_ret
                exact ⟨ret_int HG.out.symm, HK.out.trans (hb'.mono HK.out.size)⟩
              · have HG := hd (HY.out.trans (leftK_step hn1 hx hx0))
                subst hwk
                clear hn1 hnm hbk hbk2 hx HKS HY hxi
                go_wp2_with (first | (refine HC.out.mono ?_; rintro e w' ⟨rfl, hb'⟩))
                go_roundw
                case rel => exact ⟨k + 1, x, by omega, rfl, by go_num, HXI, hd (HK.out.trans (hb'.mono HK.out.size)), HG⟩
                case measure => simp [intOf]; omega
            · have HG := hd (HY.out.trans (leftK_end (by omega)))
              clear HY
              go_wp2
              go_ret
              exact ⟨ret_int HG.out.symm, HR.out⟩

/-- Few: is the tree small, as ints tell it? -/
def fewB (m : Int) (n : NT) : Bool := decide (0 ≤ leftT m n)
set_option maxRecDepth 4000 in
set_option maxHeartbeats 1000000 in
theorem few_any (d : Nat) (w : World) (v : Value) (n : NT) (m : Int) (hm : In64 m) (hn : NodeAt d w w.heap.size v n) : Calls Try.prog 13 #[v, .int .i64 m] w (Still (.bool (fewB m n)) w) := by
  have hn0 := hn
  obtain ⟨d', lf, ps, tx, ks, PA, pc, TA, tc, KA, kc, hd', rfl, rfl, hp, ht, hf, hks⟩ := hn.open_
  have hb1 : Below w.heap.size w (w.alloc (.cells #[.bool lf, .slice PA ps.length pc, .slice TA tx.length tc, .slice KA ks.length kc] 41)) := (Below.refl _ _).alloc (Nat.le_refl _) _
  have HC := hd (left_any d _ _ _ m hm (hn0.later hb1))
  obtain ⟨y, hy⟩ : ∃ y, y = leftT m (.mk lf ps tx ks) := ⟨_, rfl⟩
  rw [← hy] at HC
  have HF := hd (show fewB m (.mk lf ps tx ks) = decide (0 ≤ y) by rw [hy]; rfl)
  have HB := hd hb1
  clear hn hn0 hp ht hf hks hd' hb1 hm hy
  go_enter Try.func13, Try.ntmps13
  go_wp2_with (first | (refine HC.out.mono ?_; rintro e w' ⟨rfl, hb⟩))
  go_ret
  exact ⟨ret_bool HF.out.symm, HB.out.trans (hb.mono HB.out.size)⟩

end Go.Proofs.Ytegaapeaeffgoaa

namespace Go.Proofs.Ytegaapeaeffgoaa
open Go.RowKit
/-- c holds the tree n; c holds the selection s. -/
def HasN (w : World) (c : NC) (n : NT) : Prop := ∃ d, NodeAt d w w.heap.size (.agg c.row) n
set_option maxRecDepth 4000 in
theorem has_node {d : Nat} {w : World} {v : Value} {n : NT} (h : NodeAt d w w.heap.size v n) : ∃ c : NC, v = .agg c.row ∧ HasN w c n := by
  cases d with
  | zero => exact h.elim
  | succ d =>
    obtain ⟨PA, pc, TA, tc, KA, kc, rfl, hp, ht, hf, hks⟩ := h
    exact ⟨⟨n.lf, PA, n.ps.length, pc, TA, n.tx.length, tc, KA, n.ks.length, kc⟩, rfl, d + 1, PA, pc, TA, tc, KA, kc, rfl, hp, ht, hf, hks⟩
end Go.Proofs.Ytegaapeaeffgoaa
