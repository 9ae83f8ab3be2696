/- The plain answers of layer 1, as functions on lists of pairs of texts: no program is named here. Schemas: plain functions and facts; no program is named here. Texts of runes, and strings that tell them, as plain lists: what each call answers. Slices in memory: what a slice's cells hold, carried over whatever leaves old blocks as they were; rows of the call's own, of runes and of bytes. The calls on single bytes and on keys and values answer what the plain functions say; the world stays as it was. Lists of properties in memory: what a slice's cells hold, carried over whatever leaves old blocks as they were. Get answers the first property whose key is asked for; old memory stays as it was. Trees as plain data: what each call answers. Arguments that are trees, opened: what their cells hold; how great they are. Rows of like things in memory: their cells one behind the other; what a slice that came in holds. Schemas in memory: what their cells hold. An argument that is a list of numbers, opened: what its cells hold. Schemas that came in, opened: what their cells hold. -/
import Derived.Laws.Strings
import Derived.Test.YtegaapeaeffgoaaProg
import Derived.WalkKit
import Derived.WalkLawsBesides
import Derived.WalkSpells
import Derived.LoopTactic
import Derived.Outline
import Derived.Deep.Draws
import Derived.Deep.QuietTactic
import Derived.BigQuiet
import Derived.Below
import Derived.Laws.OwnMore
import Derived.Laws.MakeOwn
import Derived.Maps.AppendAt
import Derived.Deep.AppendLies
import Derived.RegionTactic
import Derived.OwnWalk
import Derived.WideShapes
import Derived.IntWalk
import Derived.Laws.EntriesVeiled
import Derived.Test.YtegaapeaeffgoaaRows
import Derived.ProofKit
import Derived.Deep.Slices
import Derived.SizedLaws
import Derived.OpenShut
import Derived.Deep.MidRow
import Derived.Deep.Fields
namespace Go.Proofs.Ytegaapeaeffgoaa

abbrev Pr := ByteArray × ByteArray
def noPr : Pr := (ByteArray.empty, ByteArray.empty)
def isLet (c : UInt8) : Bool := decide (97 ≤ (c.toNat : Int)) && decide ((c.toNat : Int) ≤ 122)
def isDig (c : UInt8) : Bool := decide (48 ≤ (c.toNat : Int)) && decide ((c.toNat : Int) ≤ 57)
def isVal (c : UInt8) : Bool := isLet c || isDig c || ((c.toNat : Int) == 45)
def valB (s : ByteArray) : Bool := decide (s.size ≤ 32) && s.data.toList.all isVal
def leB (a b : ByteArray) : Bool := Op.bytesLess a.toList b.toList || a.toList == b.toList

def prAt (l : List Pr) (k : Nat) : Pr := l.getD k noPr
set_option maxRecDepth 4000 in
theorem find_first {α : Type} (f : Nat → α) (p : α → Bool) : ∀ (n k : Nat), k < n → (∀ j, j < k → p (f j) = false) → p (f k) = true → ((List.range n).map f).find? p = some (f k) := by
  intro n
  induction n with
  | zero => intro k h; omega
  | succ n ih =>
    intro k hk h0 h1
    rw [List.range_succ, List.map_append, List.find?_append]
    by_cases e : k < n
    · rw [ih k e h0 h1]; rfl
    · have : k = n := by omega
      subst this
      rw [List.find?_eq_none.2]
      · simp [h1]
      · intro x hx
        obtain ⟨j, hj, rfl⟩ := List.mem_map.1 hx
        simp [h0 j (List.mem_range.1 hj)]

def getF (l : List Pr) (k : ByteArray) : Option Pr := l.find? (fun p => p.1.toList == k.toList)
def getV (l : List Pr) (k : ByteArray) : ByteArray := ((getF l k).getD noPr).2
def getB (l : List Pr) (k : ByteArray) : Bool := (getF l k).isSome

end Go.Proofs.Ytegaapeaeffgoaa

namespace Go.Proofs.Ytegaapeaeffgoaa

abbrev Nm := ByteArray
set_option maxRecDepth 4000 in
theorem nm_inj {a b : Nm} (h : a.toList = b.toList) : a = b := by
  obtain ⟨⟨x⟩⟩ := a
  obtain ⟨⟨y⟩⟩ := b
  have e : x = y := by simpa [ByteArray.toList_mk] using h
  rw [e]
def eqN (a b : Nm) : Bool := a.toList == b.toList
set_option maxRecDepth 4000 in
theorem eqN_iff {a b : Nm} : eqN a b = true ↔ a = b := ⟨fun h => nm_inj (by simpa [eqN] using h), fun h => by simp [eqN, h]⟩
set_option maxRecDepth 4000 in
theorem eqN_no {a b : Nm} : eqN a b = false ↔ a ≠ b := by rw [← Bool.not_eq_true, eqN_iff]
structure ActT where
  act : Int
  ty : Nm
structure PairT where
  ty : Nm
  act : ActT
structure RuleT where
  ty : Nm
  text : ActT
  other : ActT
  kids : List PairT
  fill : Int
  fty : Nm
structure SchT where
  rules : List RuleT
  els : RuleT
  order : List Int
  cap : Int
def noN : Nm := ByteArray.empty
def noA : ActT := ⟨0, noN⟩
def noKid : PairT := ⟨noN, noA⟩
def noRul : RuleT := ⟨noN, noA, noA, [], 0, noN⟩

def emptyN (s : Nm) : Bool := s.toList.isEmpty
set_option maxRecDepth 4000 in
theorem noN_list : noN.toList = [] := ByteArray.toList_mk []
set_option maxRecDepth 4000 in
theorem emptyN_iff {s : Nm} : emptyN s = true ↔ s = noN := ⟨fun h => nm_inj (by rw [List.isEmpty_iff.1 h, noN_list]), fun h => by rw [h, emptyN, noN_list]; rfl⟩
def nameT (s : Nm) : Bool := !emptyN s && valB s
def ruleT (s : SchT) (k : Nm) : RuleT := (s.rules.find? (fun r => eqN r.ty k)).getD s.els
def actT (r : RuleT) (k : Nm) : ActT := ((r.kids.find? (fun p => eqN p.ty k)).map (·.act)).getD r.other
def allT (s : SchT) : List RuleT := s.rules ++ [s.els]
/-- All that stands as a name, as it comes. -/
def rawR (r : RuleT) : List Nm := [r.ty, r.text.ty, r.other.ty, r.fty] ++ r.kids.flatMap fun p => [p.ty, p.act.ty]
def rawT (s : SchT) : List Nm := (allT s).flatMap rawR
def formT (a : ActT) : Bool := if a.act = 4 then nameT a.ty else decide (1 ≤ a.act) && (decide (a.act ≤ 3) && emptyN a.ty)
def kidAt (l : List PairT) (i : Nat) : PairT := l.getD i noKid
def rulAt (l : List RuleT) (i : Nat) : RuleT := l.getD i noRul
def stepK (l : List PairT) (i : Nat) : Bool := nameT (kidAt l i).ty && (!(decide (0 < i) && leB (kidAt l i).ty (kidAt l (i - 1)).ty) && formT (kidAt l i).act)
def stepN (l : List RuleT) (i : Nat) : Bool := nameT (rulAt l i).ty && !(decide (0 < i) && leB (rulAt l i).ty (rulAt l (i - 1)).ty)
def kidsOk (l : List PairT) : Bool := (List.range l.length).all (stepK l)
def rulesOk (l : List RuleT) : Bool := (List.range l.length).all (stepN l)
def fillT (r : RuleT) : Bool := if r.fill = 0 ∨ r.fill = 1 then emptyN r.fty else if r.fill = 2 then nameT r.fty else false
def ruleOk (r : RuleT) : Bool := decide (r.kids.length ≤ 32) && (formT r.text && (r.text.act != 3 && (formT r.other && (kidsOk r.kids && fillT r))))
def keepsT (r : RuleT) (k : Nm) : Bool := (actT r k).act == 1
/-- What is wrapped of a type stays. -/
def wrapK (s : SchT) (r : RuleT) (k : Nm) : Bool := (actT r k).act != 4 || (keepsT r (actT r k).ty && keepsT (ruleT s (actT r k).ty) k)
def wrapL (s : SchT) (r : RuleT) : Bool := r.text.act != 4 || (keepsT r r.text.ty && (ruleT s r.text.ty).text.act == 1)
def wrapsT (s : SchT) (r : RuleT) : Bool := wrapL s r && ((rawT s ++ [noN]).all (wrapK s r))
def filledT (r : RuleT) : Bool := if r.fill = 1 then r.text.act == 1 else if r.fill = 2 then keepsT r r.fty else true
/-- How many nodes fill an element of a rule. -/
def fillsN (s : SchT) : Nat → RuleT → Option Nat
  | 0, _ => none
  | f + 1, r => if r.fill = 0 then some 0 else if r.fill = 1 then some 1 else (fillsN s f (ruleT s r.fty)).map (· + 1)
def fillsT (s : SchT) (r : RuleT) : Option Nat := fillsN s (s.rules.length + 2) r
def orderT (l : List Int) : Bool := [1, 2, 3, 4, 5, 6].all fun c => l.count c == 1
def okSchA (s : SchT) : Bool := decide (s.rules.length ≤ 32) && (emptyN s.els.ty && (decide (1 ≤ s.cap) && (decide (s.cap ≤ 1048576) && (orderT s.order && (rulesOk s.rules && (allT s).all ruleOk)))))
def okSchZ (s : SchT) : Bool := (allT s).all fun r => wrapsT s r && (filledT r && (fillsT s r).isSome)
def okSch (s : SchT) : Bool := okSchA s && okSchZ s
def mostT (s : SchT) : Nat := ((allT s).map fun r => (fillsT s r).getD 0).foldl max 0
set_option maxRecDepth 4000 in
theorem kidAt_mem {l : List PairT} {i : Nat} (h : i < l.length) : kidAt l i = l[i] := by simp [kidAt, List.getD, h]
set_option maxRecDepth 4000 in
theorem rulAt_mem {l : List RuleT} {i : Nat} (h : i < l.length) : rulAt l i = l[i] := by simp [rulAt, List.getD, h]

/-! What follows of a schema that may be. -/
set_option maxRecDepth 4000 in
theorem nameT_ne {k : Nm} (h : nameT k = true) : k ≠ noN := by
  rintro rfl
  have e : emptyN noN = true := emptyN_iff.2 rfl
  simp [nameT, e] at h
set_option maxRecDepth 4000 in
theorem actT_none {r : RuleT} {k : Nm} (h : ∀ p ∈ r.kids, p.ty ≠ k) : actT r k = r.other := by
  have e : r.kids.find? (fun p => eqN p.ty k) = none := List.find?_eq_none.2 fun p hp e => h p hp (eqN_iff.1 e)
  unfold actT
  rw [e]
  rfl
set_option maxRecDepth 4000 in
theorem ruleT_mem (s : SchT) (k : Nm) : ruleT s k ∈ allT s := by
  unfold ruleT allT
  cases h : s.rules.find? (fun r => eqN r.ty k) with
  | none => simp
  | some r => simp [List.mem_of_find?_eq_some h]
set_option maxRecDepth 4000 in
theorem actT_cases (r : RuleT) (k : Nm) : (∃ p ∈ r.kids, p.ty = k ∧ actT r k = p.act) ∨ ((∀ p ∈ r.kids, p.ty ≠ k) ∧ actT r k = r.other) := by
  cases h : r.kids.find? (fun p => eqN p.ty k) with
  | none => exact .inr ⟨fun (p : PairT) hp e => List.find?_eq_none.1 h p hp (eqN_iff.2 e), by unfold actT; rw [h]; rfl⟩
  | some p => exact .inl ⟨p, List.mem_of_find?_eq_some h, eqN_iff.1 (List.find?_some (p := fun (p : PairT) => eqN p.ty k) h), by unfold actT; rw [h]; rfl⟩
section
variable {s : SchT} {r : RuleT} {k : Nm}
set_option maxRecDepth 4000 in
theorem ok_rule (h : okSchA s = true) (hr : r ∈ allT s) : ruleOk r = true := by
  simp only [okSchA, Bool.and_eq_true, List.all_eq_true] at h
  exact h.2.2.2.2.2.2 r hr
set_option maxRecDepth 4000 in
theorem rule_kids (h : ruleOk r = true) {p : PairT} (hp : p ∈ r.kids) : nameT p.ty = true ∧ formT p.act = true := by
  simp only [ruleOk, Bool.and_eq_true, kidsOk, List.all_eq_true, List.mem_range] at h
  obtain ⟨i, hi, rfl⟩ := List.mem_iff_getElem.1 hp
  have h1 := h.2.2.2.2.1 i hi
  simp only [stepK, Bool.and_eq_true, kidAt_mem hi] at h1
  exact ⟨h1.1, h1.2.2⟩
set_option maxRecDepth 4000 in
theorem rule_forms (h : ruleOk r = true) : formT r.text = true ∧ r.text.act ≠ 3 ∧ formT r.other = true := by
  simp only [ruleOk, Bool.and_eq_true, bne_iff_ne] at h
  exact ⟨h.2.1, h.2.2.1, h.2.2.2.1⟩
set_option maxRecDepth 4000 in
theorem act_form (h : ruleOk r = true) (k : Nm) : formT (actT r k) = true := by
  rcases actT_cases r k with ⟨p, hp, _, e⟩ | ⟨_, e⟩
  · rw [e]; exact (rule_kids h hp).2
  · rw [e]; exact (rule_forms h).2.2
set_option maxRecDepth 4000 in
theorem form_ok {a : ActT} (h : formT a = true) : (1 ≤ a.act ∧ a.act ≤ 4) ∧ ((a.ty ≠ noN) ↔ a.act = 4) := by
  unfold formT at h
  split at h
  · rename_i e
    exact ⟨by omega, fun _ => e, fun _ => nameT_ne h⟩
  · rename_i e
    simp only [Bool.and_eq_true, decide_eq_true_eq, emptyN_iff] at h
    exact ⟨by omega, fun h2 => absurd h.2.2 h2, fun h2 => absurd h2 e⟩
end

/-! Fills. -/
/-! The order of the classes. -/
end Go.Proofs.Ytegaapeaeffgoaa

namespace Go.Proofs.Ytegaapeaeffgoaa
def hval (b : UInt8) : Nat := if b.toNat ≤ 57 then b.toNat - 48 else b.toNat - 87
def val (l : List UInt8) : Nat := l.foldl (fun n b => n * 16 + hval b) 0
end Go.Proofs.Ytegaapeaeffgoaa

namespace Go.Proofs.Ytegaapeaeffgoaa
open Go.RowKit
open Go.WideShapes (add_plain)

theorem hd {p : Prop} (h : p) : Hid p := h
set_option maxRecDepth 4000 in
theorem ret_bool {a b : Bool} (h : a = b) : Ending.returned (.bool a) = .returned (.bool b) := by rw [h]
set_option maxRecDepth 4000 in
theorem ret_int {k : IntKind} {a b : Int} (h : a = b) : Ending.returned (.int k a) = .returned (.int k b) := by rw [h]
set_option maxRecDepth 4000 in
theorem below_drewN {B : Nat} {a w : World} (h : Below B a w) (n : Nat) : Below B a (w.drewN n) := ⟨h.os, h.tape, h.output, h.size, h.block⟩
set_option maxRecDepth 4000 in
theorem one_more {p : Nat → Prop} {n : Nat} (h : Hid (∀ j, j < n → p j)) (hn : p n) : Hid (∀ j, j < n + 1 → p j) := fun j hj => by
  by_cases e : j = n
  · subst e; exact hn
  · exact h.out j (by omega)

def Still (v : Value) (w : World) (e : Ending) (w' : World) : Prop := e = .returned v ∧ Below w.heap.size w w'
def AllTrue (w : World) (e : Ending) (w' : World) : Prop := e = .returned (.bool true) ∧ Below w.heap.size w w'
set_option maxRecDepth 4000 in
theorem int_eq {k : IntKind} {a b : Int} (h : a = b) : Value.int k a = .int k b := by rw [h]
/-- The slice at A holds the values xs, below block B. -/
def VL (w : World) (B : Nat) (A : Option Addr) (xs : List Value) : Prop :=
  xs ≠ [] → ∃ b o, A = some ⟨b, o, none⟩ ∧ b < B ∧ ∀ k u, xs[k]? = some u → w.cell? ⟨b, o + k, none⟩ = some u

section
variable {w w' : World} {B B' : Nat} {A : Option Addr} {xs : List Value}
set_option maxRecDepth 4000 in
theorem VL.keep (h : VL w B A xs) (hk : ∀ p : Addr, p.block < B → w'.cell? p = w.cell? p) : VL w' B A xs := fun hn => by
  obtain ⟨b, o, e, hb, hc⟩ := h hn
  exact ⟨b, o, e, hb, fun k u hku => (hk _ hb).trans (hc k u hku)⟩
set_option maxRecDepth 4000 in
theorem VL.below (h : VL w B A xs) (hb : Below B w w') : VL w' B A xs := h.keep fun _ hp => hb.cell hp
set_option maxRecDepth 4000 in
theorem VL.more (h : VL w B A xs) (hB : B ≤ B') : VL w B' A xs := fun hn => by
  obtain ⟨b, o, e, hb, hc⟩ := h hn
  exact ⟨b, o, e, by omega, hc⟩
set_option maxRecDepth 4000 in
theorem VL.later (h : VL w w.heap.size A xs) (hb : Below w.heap.size w w') : VL w' w'.heap.size A xs := (h.below hb).more hb.size
set_option maxRecDepth 4000 in
theorem VL.nil (w : World) (B : Nat) (A : Option Addr) : VL w B A [] := fun h => absurd rfl h
end
end Go.Proofs.Ytegaapeaeffgoaa

namespace Go.Proofs.Ytegaapeaeffgoaa
open Go.RowKit
set_option maxRecDepth 4000 in
/-- What all bytes of a text meet, told place by place. -/
theorem all_take (p : UInt8 → Bool) (s : ByteArray) (h : ∀ j (hj : j < s.size), p s[j] = true) : s.data.toList.all p = true := by
  rw [List.all_eq_true]
  intro x hx
  obtain ⟨j, hj, rfl⟩ := List.mem_iff_getElem.1 hx
  exact h j (by simpa using hj)

set_option maxRecDepth 4000 in
theorem all_fails (p : UInt8 → Bool) (s : ByteArray) (j : Nat) (hj : j < s.size) (h : p s[j] = false) : s.data.toList.all p = false := by
  cases hh : s.data.toList.all p
  · rfl
  · rw [List.all_eq_true] at hh
    have hj' : j < s.data.toList.length := by simpa using hj
    have e : p s[j] = true := hh _ (List.getElem_mem hj')
    rw [h] at e
    cases e

set_option maxRecDepth 4000 in
theorem more (p : UInt8 → Bool) (s : ByteArray) (k : Nat) (hk : k < s.size) (h : Hid (∀ j (hj : j < s.size), j < k → p s[j] = true)) (hp : p s[k] = true) : Hid (∀ j (hj : j < s.size), j < k + 1 → p s[j] = true) := by
  intro j hj hl
  by_cases e : j = k
  · subst e; exact hp
  · exact h.out j hj (by omega)

set_option maxRecDepth 4000 in
theorem dec_no {p : Prop} [Decidable p] (h : ¬ p) : decide p = false := by simpa using h

set_option maxRecDepth 4000 in
theorem val_cases (c : UInt8) : isVal c = true ↔ ((97 ≤ (c.toNat : Int) ∧ (c.toNat : Int) ≤ 122) ∨ (48 ≤ (c.toNat : Int) ∧ (c.toNat : Int) ≤ 57) ∨ (c.toNat : Int) = 45) := by
  unfold isVal isLet isDig
  simp
  omega

set_option maxRecDepth 4000 in
theorem val_not {c : UInt8} (h : ¬ ((97 ≤ (c.toNat : Int) ∧ (c.toNat : Int) ≤ 122) ∨ (48 ≤ (c.toNat : Int) ∧ (c.toNat : Int) ≤ 57) ∨ (c.toNat : Int) = 45)) : isVal c = false := by
  cases hh : isVal c
  · rfl
  · exact absurd ((val_cases c).1 hh) h

end Go.Proofs.Ytegaapeaeffgoaa

namespace Go.Proofs.Ytegaapeaeffgoaa
open Go.RowKit

/-- The slice at A holds the properties l, below block B. -/
def PL (w : World) (B : Nat) (A : Option Addr) (l : List Pr) : Prop :=
  l ≠ [] → ∃ b o, A = some ⟨b, o, none⟩ ∧ b < B ∧ ∀ k, k < l.length → w.cell? ⟨b, o + k * 2, none⟩ = some (.string (prAt l k).1) ∧ w.cell? ⟨b, o + k * 2 + 1, none⟩ = some (.string (prAt l k).2)

set_option maxRecDepth 4000 in
theorem PL.keep {w w' : World} {B : Nat} {A : Option Addr} {l : List Pr} (h : PL w B A l) (hk : ∀ p : Addr, p.block < B → w'.cell? p = w.cell? p) : PL w' B A l := fun hn => by
  obtain ⟨b, o, e, hb, hc⟩ := h hn
  exact ⟨b, o, e, hb, fun k hkl => ⟨(hk _ hb).trans (hc k hkl).1, (hk _ hb).trans (hc k hkl).2⟩⟩
set_option maxRecDepth 4000 in
theorem PL.below {w w' : World} {B : Nat} {A : Option Addr} {l : List Pr} (h : PL w B A l) (hb : Below B w w') : PL w' B A l := h.keep fun _ hp => hb.cell hp
set_option maxRecDepth 4000 in
theorem PL.more {w : World} {B B' : Nat} {A : Option Addr} {l : List Pr} (h : PL w B A l) (hB : B ≤ B') : PL w B' A l := fun hn => by
  obtain ⟨b, o, e, hb, hc⟩ := h hn
  exact ⟨b, o, e, by omega, hc⟩
set_option maxRecDepth 4000 in
theorem PL.at_ {w : World} {B : Nat} {A : Option Addr} {l : List Pr} (h : PL w B A l) {k : Nat} (hk : k < l.length) : ∃ b o, A = some ⟨b, o, none⟩ ∧ b < B ∧ w.cell? ⟨b, o + k * 2, none⟩ = some (.string (prAt l k).1) ∧ w.cell? ⟨b, o + k * 2 + 1, none⟩ = some (.string (prAt l k).2) := by
  obtain ⟨b, o, e, hb, hc⟩ := h (by intro e; subst e; simp at hk)
  exact ⟨b, o, e, hb, (hc k hk).1, (hc k hk).2⟩
set_option maxRecDepth 4000 in
theorem PL.nil (w : World) (B : Nat) (A : Option Addr) : PL w B A [] := fun h => absurd rfl h

set_option maxRecDepth 4000 in
theorem prAt_eq (l : List Pr) (k : Nat) (hk : k < l.length) : prAt l k = l[k] := by
  unfold prAt; rw [List.getD_eq_getElem?_getD, List.getElem?_eq_getElem hk]; rfl

end Go.Proofs.Ytegaapeaeffgoaa

namespace Go.Proofs.Ytegaapeaeffgoaa
open Go.RowKit

theorem ret_get {a b : ByteArray} {p q : Bool} (h : a = b) (hp : p = q) : Ending.returned (.tuple #[.string a, .bool p]) = .returned (.tuple #[.string b, .bool q]) := by rw [h, hp]

set_option maxRecDepth 4000 in
theorem getF_hit (l : List Pr) (k : ByteArray) (n : Nat) (hn : n < l.length) (h0 : ∀ j, j < n → ((prAt l j).1.toList == k.toList) = false) (h : ((prAt l n).1.toList == k.toList) = true) : getF l k = some (prAt l n) := by
  unfold getF
  have e : l = (List.range l.length).map (prAt l) := by
    apply List.ext_getElem?
    intro i
    by_cases hi : i < l.length
    · simp [hi, prAt_eq l i hi]
    · simp [hi]
  have := find_first (prAt l) (fun p => p.1.toList == k.toList) l.length n hn h0 h
  rwa [← e] at this

set_option maxRecDepth 4000 in
theorem getF_miss (l : List Pr) (k : ByteArray) (h0 : ∀ j, j < l.length → ((prAt l j).1.toList == k.toList) = false) : getF l k = none := by
  unfold getF
  rw [List.find?_eq_none]
  intro p hp
  obtain ⟨j, hj, rfl⟩ := List.mem_iff_getElem.1 hp
  have := h0 j hj
  rw [prAt_eq l j hj] at this
  simpa using this

set_option maxRecDepth 4000 in
set_option maxHeartbeats 1000000 in
theorem pget_any (A : Option Addr) (l : List Pr) (c : Nat) (k : ByteArray) (w : World) (hl : l.length ≤ 9223372036854775807) (hp : PL w w.heap.size A l) :
    Calls Try.prog 55 #[.slice A l.length c, .string k] w fun e w' => e = .returned (.tuple #[.string (getV l k), .bool (getB l k)]) ∧ Below w.heap.size w w' := by
  go_enter Try.func55, Try.ntmps55
  go_wp2
  go_loopw [10] (fun i wr => ∃ n : Nat, n ≤ l.length ∧ i = .int .i64 n ∧ Below w.heap.size w wr ∧ Hid (∀ j, j < n → ((prAt l j).1.toList == k.toList) = false)) (fun i _ => l.length - (intOf i).toNat)
  case atStart => exact ⟨0, Nat.zero_le _, rfl, Below.refl _ _, fun j hj => absurd hj (Nat.not_lt_zero _)⟩
  case round =>
    obtain ⟨n, hn, rfl, hb, HA⟩ := hrel
    by_cases hlt : n < l.length
    · obtain ⟨b, o, rfl, hlb, c1, c2⟩ := (hp.below hb).at_ hlt
      clear hp
      cases ht : ((prAt l n).1.toList == k.toList)
      · have HB := one_more (p := fun j => ((prAt l j).1.toList == k.toList) = false) HA ht
        clear HA
        go_wp2
        go_roundw
        case rel => exact ⟨n + 1, by omega, by go_num, hb.alloc hb.size _, HB⟩
        case measure => simp [intOf]; omega
      · have HF := hd (getF_hit l k n hlt HA.out ht)
        clear HA
        go_wp2
        go_ret2
        exact ⟨ret_get (by unfold getV; rw [HF.out]; rfl) (by unfold getB; rw [HF.out]; rfl), hb.alloc hb.size _⟩
    · have HF := hd (getF_miss l k (fun j hj => HA.out j (by omega)))
      clear HA
      go_wp2
      go_ret2
      exact ⟨ret_get (by unfold getV; rw [HF.out]; rfl) (by unfold getB; rw [HF.out]; rfl), hb⟩

end Go.Proofs.Ytegaapeaeffgoaa

namespace Go.Proofs.Ytegaapeaeffgoaa
open Go.RowKit

/-- A tree: leaf or not, properties, text, Kids. -/
inductive NT where
  | mk (lf : Bool) (ps : List Pr) (tx : List Int) (ks : List NT)

/-- A tree's type. -/
def tyKey : ByteArray := { data := #[116, 121, 112, 101] }
def typeT (lf : Bool) (ps : List Pr) : ByteArray := if lf then ByteArray.empty else getV ps tyKey

end Go.Proofs.Ytegaapeaeffgoaa

namespace Go.Proofs.Ytegaapeaeffgoaa
open Go.ChangeShapes Go.WideShapes Go.RowKit Go.Deep

theorem own : ownKnob Try.prog.godebug = none := by kernel_rfl
set_option maxRecDepth 4000 in
theorem laidOut : laidOutB Try.prog = true := by kernel_rfl
set_option maxRecDepth 4000 in
theorem cells_str : Try.prog.cellsOf 9 = 1 := by kernel_rfl
set_option maxRecDepth 4000 in
theorem cell_spot {w : World} {a : Addr} {v : Value} (h : w.cell? a = some v) : a.block < w.heap.size ∧ a.spot = none := by
  unfold World.cell? at h
  cases hb : w.heap[a.block]? with
  | none => rw [hb] at h; cases h
  | some o =>
    rw [hb] at h
    refine ⟨(Array.getElem?_eq_some_iff.1 hb).1, ?_⟩
    cases o <;> simp at h
    exact h.1

/-! What the bound gives. -/

section
variable {H : Type} {enc : TypeId × Value → H} {W : World} {base : Nat} {sp : Nat → Bool} {held : Bool}
instance : Inhabited NT := ⟨.mk false [] [] []⟩

end

end Go.Proofs.Ytegaapeaeffgoaa

namespace Go.Proofs.Ytegaapeaeffgoaa
open Go.ChangeShapes Go.WideShapes Go.RowKit Go.Deep

/-- The cells of things in a row. -/
def flatF {α : Type} (f : α → List Value) (l : List α) : List Value := l.flatMap f
section
variable {α : Type} {f : α → List Value} {n : Nat}
set_option maxRecDepth 4000 in
theorem flatF_len (hf : ∀ x, (f x).length = n) : ∀ l : List α, (flatF f l).length = l.length * n
  | [] => by simp [flatF]
  | x :: r => by rw [flatF, List.flatMap_cons, List.length_append, hf, ← flatF, flatF_len hf r, List.length_cons, Nat.add_mul]; omega
set_option maxRecDepth 4000 in
theorem flatF_at (hf : ∀ x, (f x).length = n) : ∀ {l : List α} {k : Nat} {x : α}, l[k]? = some x → ∀ j v, (f x)[j]? = some v → (flatF f l)[k * n + j]? = some v
  | [], _, _, h, _, _, _ => by simp at h
  | y :: r, 0, x, h, j, v, hv => by
    simp only [List.getElem?_cons_zero, Option.some.injEq] at h
    subst h
    have hj := (List.getElem?_eq_some_iff.1 hv).1
    rw [flatF, List.flatMap_cons, Nat.zero_mul, Nat.zero_add, List.getElem?_append_left hj]
    exact hv
  | y :: r, k + 1, x, h, j, v, hv => by
    rw [List.getElem?_cons_succ] at h
    have h2 := flatF_at hf h j v hv
    rw [flatF, List.flatMap_cons, List.getElem?_append_right (by rw [hf, Nat.add_mul]; omega), show (k + 1) * n + j - (f y).length = k * n + j by rw [hf, Nat.add_mul]; omega]
    exact h2
set_option maxRecDepth 4000 in
/-- One of a row. -/
theorem VL.row {w : World} {B : Nat} {A : Option Addr} {l : List α} (hf : ∀ x, (f x).length = n) (hn : 0 < n) (h : VL w B A (flatF f l)) {k : Nat} (hk : k < l.length) :
    ∃ b o, A = some ⟨b, o, none⟩ ∧ b < B ∧ w.rangeAt b (o + k * n) (f l[k]) := by
  obtain ⟨b, o, e, hb, hc⟩ := h (fun e => by
    have := flatF_len hf l
    rw [e] at this
    have h2 : 0 < l.length * n := Nat.mul_pos (by omega) hn
    simp at this
    omega)
  exact ⟨b, o, e, hb, fun j v hv => by rw [Nat.add_assoc]; exact hc _ _ (flatF_at hf (List.getElem?_eq_getElem hk) j v hv)⟩
end
set_option maxRecDepth 4000 in
theorem rangeAt_later {w w' : World} {b o : Nat} {cs : List Value} (h : w.rangeAt b o cs) (hb : b < w.heap.size) (ho : Below w.heap.size w w') : w'.rangeAt b o cs := fun j v hv => (ho.cell hb).trans (h j v hv)

/-! A slice that came in, its elements told by a law of their own. -/
section
variable {H : Type} {enc : TypeId × Value → H} {W : World} {base : Nat} {held : Bool} {α : Type} {f : α → List Value} {n : Nat} {Ok : α → Prop}
set_option maxRecDepth 4000 in
theorem slice_full (x0 : α) {t e : TypeId} (ht : Try.prog.underlying t = some (.slice e)) (hce : Try.prog.cellsOf e = n) (hn : 0 < n) (hf : ∀ x, (f x).length = n)
    (he : ∀ {fuel : Nat} {cs : List Value} {x : DataW H × List MemPlace}, DataW.trod enc Try.prog W base (fun _ => true) held fuel e cs = some x → ∃ y, cs = f y ∧ Ok y)
    {fuel : Nat} {cs : List Value} {x : DataW H × List MemPlace} (h : DataW.trod enc Try.prog W base (fun _ => true) held fuel t cs = some x) :
    ∃ (A : Option Addr) (l : List α) (c : Nat), cs = [.slice A l.length c] ∧ l.length ≤ c ∧ l.length ≤ 9223372036854775807 ∧ VL W W.heap.size A (flatF f l) ∧ ∀ y ∈ l, Ok y := by
  rcases DataW.trod_slice ht h with ⟨hcs, _⟩ | ⟨a, len, cap, elems, rest, f2, hfu, hcs, hxe, _, hl, hm, hlen, hel, _, _⟩
  · exact ⟨none, [], 0, hcs, Nat.le_refl _, by simp, VL.nil _ _ _, fun _ hy => absurd hy (by simp)⟩
  · have key : ∀ i, i < len → ∃ y : α, Ok y ∧ ∀ j v, (f y)[j]? = some v → W.cell? (a.add (i * n + j)) = some v := by
      intro i him
      have h1 := hel i him
      have him' : i < elems.length := by omega
      rw [hce, List.getElem?_eq_getElem him'] at h1
      obtain ⟨cs', hc, htr⟩ := Option.bind_eq_some_iff.1 h1
      obtain ⟨y, rfl, hok⟩ := he htr
      obtain ⟨_, _, hat⟩ := World.cells?_some hc
      refine ⟨y, hok, fun j v hv => ?_⟩
      have hj := (List.getElem?_eq_some_iff.1 hv).1
      rw [hf] at hj
      have a0 := hat (i := j) hj
      rw [add_add] at a0
      rw [a0]
      exact hv
    haveI : Inhabited α := ⟨x0⟩
    obtain ⟨q, hq⟩ := choose_lt key
    have hlen2 : ((List.range len).map q).length = len := by simp
    have hget : ∀ (k : Nat) (y : α), ((List.range len).map q)[k]? = some y → k < len ∧ y = q k := fun k y hk => by
      have hkl : k < len := by have := (List.getElem?_eq_some_iff.1 hk).1; rwa [hlen2] at this
      rw [List.getElem?_map, List.getElem?_range hkl] at hk
      simp only [Option.map_some, Option.some.injEq] at hk
      exact ⟨hkl, hk.symm⟩
    refine ⟨some a, (List.range len).map q, cap, by rw [hlen2]; exact hcs, by rw [hlen2]; exact hl, by rw [hlen2]; unfold maxLen at hm; omega, fun hne => ?_, fun y hy => ?_⟩
    · have h0 : 0 < len := by
        rcases Nat.eq_zero_or_pos len with h | h
        · subst h; exact absurd rfl hne
        · exact h
      have hs0 : 0 < (f (q 0)).length := by rw [hf]; exact hn
      have hs := cell_spot ((hq 0 h0).2 0 _ (List.getElem?_eq_getElem hs0))
      simp only [Nat.zero_mul, Nat.add_zero, Addr.add, if_true] at hs
      obtain ⟨b, o, s⟩ := a
      obtain rfl : s = none := hs.2
      refine ⟨b, o, rfl, hs.1, fun k u hk => ?_⟩
      have hkl := (List.getElem?_eq_some_iff.1 hk).1
      rw [flatF_len hf, hlen2] at hkl
      have hd : k / n < len := (Nat.div_lt_iff_lt_mul hn).2 hkl
      have e1 : ((List.range len).map q)[k / n]? = some (q (k / n)) := by rw [List.getElem?_map, List.getElem?_range hd]; rfl
      have hj : k % n < (f (q (k / n))).length := by rw [hf]; exact Nat.mod_lt _ hn
      have e2 := flatF_at hf e1 (k % n) _ (List.getElem?_eq_getElem hj)
      have e3 : k / n * n + k % n = k := by rw [Nat.mul_comm]; exact Nat.div_add_mod k n
      rw [e3, hk] at e2
      have h3 := (hq (k / n) hd).2 (k % n) _ (List.getElem?_eq_getElem hj)
      rw [e3, add_plain] at h3
      rw [h3, e2]
    · obtain ⟨k, hk⟩ := List.mem_iff_getElem?.1 hy
      obtain ⟨hkl, rfl⟩ := hget k y hk
      exact (hq k hkl).1
end

end Go.Proofs.Ytegaapeaeffgoaa

namespace Go.Proofs.Ytegaapeaeffgoaa
open Go.RowKit

/-- As great as a text may be. -/
def FitN1 (s : Nm) : Prop := s.size ≤ 9223372036854775807
set_option maxRecDepth 4000 in
theorem fit0 : FitN1 noN := by show (0 : Nat) ≤ _; omega
def PairT.row (p : PairT) : Array Value := #[.string p.ty, .int .i64 p.act.act, .string p.act.ty]
set_option maxRecDepth 4000 in
theorem PairT.len (p : PairT) : p.row.toList.length = 3 := rfl
set_option maxRecDepth 4000 in
theorem PairT.one (p : PairT) : p.row.all (·.oneCell') = true := by kernel_rfl
def cellsP (l : List PairT) : List Value := flatF (fun p => p.row.toList) l
structure FitR (r : RuleT) : Prop where
  ty : FitN1 r.ty
  tt : FitN1 r.text.ty
  ot : FitN1 r.other.ty
  fty : FitN1 r.fty
  kids : ∀ p ∈ r.kids, FitN1 p.ty ∧ FitN1 p.act.ty
/-- Where a rule's Kids lie, and its other cells. -/
structure RuC where
  ty : Nm
  td : Int
  tt : Nm
  od : Int
  ot : Nm
  K : Option Addr
  nk : Nat
  ck : Nat
  fill : Int
  fty : Nm
def RuC.row (c : RuC) : Array Value := #[.string c.ty, .int .i64 c.td, .string c.tt, .int .i64 c.od, .string c.ot, .slice c.K c.nk c.ck, .int .i64 c.fill, .string c.fty]
def RuC.zero : RuC := ⟨noN, 0, noN, 0, noN, none, 0, 0, 0, noN⟩
set_option maxRecDepth 4000 in
theorem RuC.len (c : RuC) : c.row.toList.length = 8 := rfl
set_option maxRecDepth 4000 in
theorem RuC.one (c : RuC) : c.row.all (·.oneCell') = true := by kernel_rfl
/-- c holds the rule r. -/
structure RuAt (w : World) (c : RuC) (r : RuleT) : Prop where
  hty : r.ty = c.ty
  htext : r.text = ⟨c.td, c.tt⟩
  hother : r.other = ⟨c.od, c.ot⟩
  hfill : r.fill = c.fill
  hfty : r.fty = c.fty
  len : r.kids.length = c.nk
  cap : c.nk ≤ c.ck
  max : c.nk ≤ 9223372036854775807
  kids : VL w w.heap.size c.K (cellsP r.kids)
  fit : FitR r
set_option maxRecDepth 4000 in
theorem RuAt.later {w w' : World} {c : RuC} {r : RuleT} (h : RuAt w c r) (hb : Below w.heap.size w w') : RuAt w' c r := { h with kids := h.kids.later hb }
set_option maxRecDepth 4000 in
/-- One of a rule's Kids. -/
theorem RuAt.kid {w : World} {c : RuC} {r : RuleT} (h : RuAt w c r) {k : Nat} (hk : k < r.kids.length) : ∃ b o, c.K = some ⟨b, o, none⟩ ∧ b < w.heap.size ∧ w.rangeAt b (o + k * 3) (kidAt r.kids k).row.toList := by
  rw [kidAt_mem hk]
  exact h.kids.row PairT.len (by decide) hk
def cellsU (cs : List RuC) : List Value := flatF (fun c => c.row.toList) cs
/-- cs hold the rules us, in a row at A. -/
structure LU (w : World) (A : Option Addr) (cs : List RuC) (us : List RuleT) : Prop where
  hv : VL w w.heap.size A (cellsU cs)
  hl : cs.length = us.length
  ha : ∀ (k : Nat) (c : RuC) (a : RuleT), cs[k]? = some c → us[k]? = some a → RuAt w c a
set_option maxRecDepth 4000 in
theorem LU.later {w w' : World} {A : Option Addr} {cs : List RuC} {us : List RuleT} (h : LU w A cs us) (hb : Below w.heap.size w w') : LU w' A cs us :=
  ⟨h.hv.later hb, h.hl, fun k c a h1 h2 => (h.ha k c a h1 h2).later hb⟩
set_option maxRecDepth 4000 in
theorem LU.nil (w : World) (A : Option Addr) : LU w A [] [] := ⟨VL.nil _ _ _, rfl, fun k c a h => by simp at h⟩
set_option maxRecDepth 4000 in
theorem LU.at_ {w : World} {A : Option Addr} {cs : List RuC} {us : List RuleT} (h : LU w A cs us) {k : Nat} (hk : k < us.length) :
    ∃ b o c, A = some ⟨b, o, none⟩ ∧ b < w.heap.size ∧ cs[k]? = some c ∧ RuAt w c (rulAt us k) ∧ w.rangeAt b (o + k * 8) c.row.toList := by
  have hk2 : k < cs.length := by rw [h.hl]; exact hk
  have e1 : cs[k]? = some cs[k] := List.getElem?_eq_getElem hk2
  have e2 : us[k]? = some (rulAt us k) := by rw [rulAt_mem hk]; exact List.getElem?_eq_getElem hk
  obtain ⟨b, o, e, hb, hc⟩ := h.hv.row RuC.len (by decide) hk2
  exact ⟨b, o, cs[k], e, hb, e1, h.ha k _ _ e1 e2, hc⟩
/-- A schema's cells. -/
structure ScC where
  R : Option Addr
  nr : Nat
  cr : Nat
  e : RuC
  o1 : Int
  o2 : Int
  o3 : Int
  o4 : Int
  o5 : Int
  o6 : Int
  cap : Int
def ScC.row (c : ScC) : Array Value := #[.slice c.R c.nr c.cr, .string c.e.ty, .int .i64 c.e.td, .string c.e.tt, .int .i64 c.e.od, .string c.e.ot, .slice c.e.K c.e.nk c.e.ck, .int .i64 c.e.fill, .string c.e.fty,
  .int .i64 c.o1, .int .i64 c.o2, .int .i64 c.o3, .int .i64 c.o4, .int .i64 c.o5, .int .i64 c.o6, .int .i64 c.cap]
set_option maxRecDepth 4000 in
theorem ScC.one (c : ScC) : c.row.all (·.oneCell') = true := by kernel_rfl
structure ScAt (w : World) (c : ScC) (s : SchT) : Prop where
  hord : s.order = [c.o1, c.o2, c.o3, c.o4, c.o5, c.o6]
  hcap : s.cap = c.cap
  els : RuAt w c.e s.els
  len : s.rules.length = c.nr
  cap : c.nr ≤ c.cr
  max : c.nr ≤ 9223372036854775807
  rules : ∃ cs, LU w c.R cs s.rules
set_option maxRecDepth 4000 in
theorem ScAt.later {w w' : World} {c : ScC} {s : SchT} (h : ScAt w c s) (hb : Below w.heap.size w w') : ScAt w' c s :=
  { h with els := h.els.later hb, rules := by obtain ⟨cs, hc⟩ := h.rules; exact ⟨cs, hc.later hb⟩ }

end Go.Proofs.Ytegaapeaeffgoaa

namespace Go.Proofs.Ytegaapeaeffgoaa
open Go.ChangeShapes Go.WideShapes Go.RowKit Go.Deep

theorem cells_int : Try.prog.cellsOf 3 = 1 := by kernel_rfl
end Go.Proofs.Ytegaapeaeffgoaa

namespace Go.Proofs.Ytegaapeaeffgoaa
open Go.ChangeShapes Go.WideShapes Go.RowKit Go.Deep

theorem afields_act : Try.prog.underlying 24 = some (.struct (Try.prog.fieldsOf 24)) := by kernel_rfl
set_option maxRecDepth 4000 in
theorem asize_act : (Try.prog.fieldsOf 24).size = 2 := by kernel_rfl
set_option maxRecDepth 4000 in
theorem afields_pair : Try.prog.underlying 52 = some (.struct (Try.prog.fieldsOf 52)) := by kernel_rfl
set_option maxRecDepth 4000 in
theorem asize_pair : (Try.prog.fieldsOf 52).size = 2 := by kernel_rfl
set_option maxRecDepth 4000 in
theorem afields_rule : Try.prog.underlying 27 = some (.struct (Try.prog.fieldsOf 27)) := by kernel_rfl
set_option maxRecDepth 4000 in
theorem asize_rule : (Try.prog.fieldsOf 27).size = 6 := by kernel_rfl
set_option maxRecDepth 4000 in
theorem afields_sch : Try.prog.underlying 30 = some (.struct (Try.prog.fieldsOf 30)) := by kernel_rfl
set_option maxRecDepth 4000 in
theorem asize_sch : (Try.prog.fieldsOf 30).size = 4 := by kernel_rfl
set_option maxRecDepth 4000 in
theorem acells_act : Try.prog.cellsOf 24 = 2 := by kernel_rfl
set_option maxRecDepth 4000 in
theorem acells_pair : Try.prog.cellsOf 52 = 3 := by kernel_rfl
set_option maxRecDepth 4000 in
theorem acells_rule : Try.prog.cellsOf 27 = 8 := by kernel_rfl
set_option maxRecDepth 4000 in
theorem acells_sch : Try.prog.cellsOf 30 = 16 := by kernel_rfl
set_option maxRecDepth 4000 in
theorem acells_pairs : Try.prog.cellsOf 25 = 1 := by kernel_rfl
set_option maxRecDepth 4000 in
theorem acells_rules : Try.prog.cellsOf 22 = 1 := by kernel_rfl
set_option maxRecDepth 4000 in
theorem acells_ord : Try.prog.cellsOf 28 = 6 := by kernel_rfl
set_option maxRecDepth 4000 in
theorem aff_act_0 : ((Try.prog.fieldsOf 24)[0]?).map (fun f => (f.type, f.offset)) = some (3, 0) := by kernel_rfl
set_option maxRecDepth 4000 in
theorem aff_act_1 : ((Try.prog.fieldsOf 24)[1]?).map (fun f => (f.type, f.offset)) = some (9, 1) := by kernel_rfl
set_option maxRecDepth 4000 in
theorem aff_pair_0 : ((Try.prog.fieldsOf 52)[0]?).map (fun f => (f.type, f.offset)) = some (9, 0) := by kernel_rfl
set_option maxRecDepth 4000 in
theorem aff_pair_1 : ((Try.prog.fieldsOf 52)[1]?).map (fun f => (f.type, f.offset)) = some (24, 1) := by kernel_rfl
set_option maxRecDepth 4000 in
theorem aff_rule_0 : ((Try.prog.fieldsOf 27)[0]?).map (fun f => (f.type, f.offset)) = some (9, 0) := by kernel_rfl
set_option maxRecDepth 4000 in
theorem aff_rule_1 : ((Try.prog.fieldsOf 27)[1]?).map (fun f => (f.type, f.offset)) = some (24, 1) := by kernel_rfl
set_option maxRecDepth 4000 in
theorem aff_rule_2 : ((Try.prog.fieldsOf 27)[2]?).map (fun f => (f.type, f.offset)) = some (24, 3) := by kernel_rfl
set_option maxRecDepth 4000 in
theorem aff_rule_3 : ((Try.prog.fieldsOf 27)[3]?).map (fun f => (f.type, f.offset)) = some (25, 5) := by kernel_rfl
set_option maxRecDepth 4000 in
theorem aff_rule_4 : ((Try.prog.fieldsOf 27)[4]?).map (fun f => (f.type, f.offset)) = some (3, 6) := by kernel_rfl
set_option maxRecDepth 4000 in
theorem aff_rule_5 : ((Try.prog.fieldsOf 27)[5]?).map (fun f => (f.type, f.offset)) = some (9, 7) := by kernel_rfl
set_option maxRecDepth 4000 in
theorem aff_sch_0 : ((Try.prog.fieldsOf 30)[0]?).map (fun f => (f.type, f.offset)) = some (22, 0) := by kernel_rfl
set_option maxRecDepth 4000 in
theorem aff_sch_1 : ((Try.prog.fieldsOf 30)[1]?).map (fun f => (f.type, f.offset)) = some (27, 1) := by kernel_rfl
set_option maxRecDepth 4000 in
theorem aff_sch_2 : ((Try.prog.fieldsOf 30)[2]?).map (fun f => (f.type, f.offset)) = some (28, 9) := by kernel_rfl
set_option maxRecDepth 4000 in
theorem aff_sch_3 : ((Try.prog.fieldsOf 30)[3]?).map (fun f => (f.type, f.offset)) = some (3, 15) := by kernel_rfl
section
variable {H : Type} {enc : TypeId × Value → H} {W : World} {base : Nat} {held : Bool}
set_option maxRecDepth 4000 in
theorem astr {fuel : Nat} {cs : List Value} {x : DataW H × List MemPlace} (h : DataW.trod enc Try.prog W base (fun _ => true) held fuel 9 cs = some x) : ∃ s : Nm, cs = [.string s] ∧ FitN1 s := by
  obtain ⟨s, h1, _, h3⟩ := DataW.trod_string Try.underlying9 h
  exact ⟨s, h1, h3⟩
set_option maxRecDepth 4000 in
theorem aint {fuel : Nat} {cs : List Value} {x : DataW H × List MemPlace} (h : DataW.trod enc Try.prog W base (fun _ => true) held fuel 3 cs = some x) : ∃ i : Int, cs = [.int .i64 i] := by
  obtain ⟨n, h1, _, _⟩ := DataW.trod_int Try.underlying3 h
  exact ⟨n, h1⟩
set_option maxRecDepth 4000 in
theorem act_full {fuel : Nat} {cs : List Value} {x : DataW H × List MemPlace} (h : DataW.trod enc Try.prog W base (fun _ => true) held fuel 24 cs = some x) : ∃ a : ActT, cs = [.int .i64 a.act, .string a.ty] ∧ FitN1 a.ty := by
  obtain ⟨xs, f1, rfl, rfl, hcl, hxl, hf⟩ := DataW.trod_struct afields_act h
  rw [acells_act] at hcl
  rw [asize_act] at hxl
  obtain ⟨t0, e0, g0⟩ := Option.map_eq_some_iff.1 aff_act_0
  obtain ⟨t1, e1, g1⟩ := Option.map_eq_some_iff.1 aff_act_1
  simp only [Prod.mk.injEq] at g0 g1
  have r0 := hf 0 t0 e0
  have r1 := hf 1 t1 e1
  rw [g0.1, g0.2, cells_int] at r0
  rw [g1.1, g1.2, cells_str] at r1
  match cs, hcl, xs, hxl with
  | [c0, c1], _, [x0, x1], _ =>
    simp only [List.drop_zero, List.take_succ_cons, List.take_zero, List.drop_succ_cons, List.getElem?_cons_zero, List.getElem?_cons_succ] at r0 r1
    obtain ⟨n, k0⟩ := aint r0
    obtain ⟨s, k1, hs⟩ := astr r1
    simp only [List.cons.injEq, and_true] at k0 k1
    exact ⟨⟨n, s⟩, by rw [k0, k1], hs⟩
set_option maxRecDepth 4000 in
theorem pair_full {fuel : Nat} {cs : List Value} {x : DataW H × List MemPlace} (h : DataW.trod enc Try.prog W base (fun _ => true) held fuel 52 cs = some x) : ∃ p : PairT, cs = p.row.toList ∧ (FitN1 p.ty ∧ FitN1 p.act.ty) := by
  obtain ⟨xs, f1, rfl, rfl, hcl, hxl, hf⟩ := DataW.trod_struct afields_pair h
  rw [acells_pair] at hcl
  rw [asize_pair] at hxl
  obtain ⟨t0, e0, g0⟩ := Option.map_eq_some_iff.1 aff_pair_0
  obtain ⟨t1, e1, g1⟩ := Option.map_eq_some_iff.1 aff_pair_1
  simp only [Prod.mk.injEq] at g0 g1
  have r0 := hf 0 t0 e0
  have r1 := hf 1 t1 e1
  rw [g0.1, g0.2, cells_str] at r0
  rw [g1.1, g1.2, acells_act] at r1
  match cs, hcl, xs, hxl with
  | [c0, c1, c2], _, [x0, x1], _ =>
    simp only [List.drop_zero, List.take_succ_cons, List.take_zero, List.drop_succ_cons, List.getElem?_cons_zero, List.getElem?_cons_succ] at r0 r1
    obtain ⟨s, k0, hs⟩ := astr r0
    obtain ⟨a, k1, ha⟩ := act_full r1
    simp only [List.cons.injEq, and_true] at k0 k1
    exact ⟨⟨s, a⟩, by rw [k0, k1.1, k1.2]; rfl, hs, ha⟩
set_option maxRecDepth 4000 in
/-- The cells of a rule. -/
theorem rule_full {fuel : Nat} {cs : List Value} {x : DataW H × List MemPlace} (h : DataW.trod enc Try.prog W base (fun _ => true) held fuel 27 cs = some x) : ∃ q : RuC × RuleT, cs = q.1.row.toList ∧ RuAt W q.1 q.2 := by
  obtain ⟨xs, f1, rfl, rfl, hcl, hxl, hf⟩ := DataW.trod_struct afields_rule h
  rw [acells_rule] at hcl
  rw [asize_rule] at hxl
  obtain ⟨t0, e0, g0⟩ := Option.map_eq_some_iff.1 aff_rule_0
  obtain ⟨t1, e1, g1⟩ := Option.map_eq_some_iff.1 aff_rule_1
  obtain ⟨t2, e2, g2⟩ := Option.map_eq_some_iff.1 aff_rule_2
  obtain ⟨t3, e3, g3⟩ := Option.map_eq_some_iff.1 aff_rule_3
  obtain ⟨t4, e4, g4⟩ := Option.map_eq_some_iff.1 aff_rule_4
  obtain ⟨t5, e5, g5⟩ := Option.map_eq_some_iff.1 aff_rule_5
  simp only [Prod.mk.injEq] at g0 g1 g2 g3 g4 g5
  have r0 := hf 0 t0 e0
  have r1 := hf 1 t1 e1
  have r2 := hf 2 t2 e2
  have r3 := hf 3 t3 e3
  have r4 := hf 4 t4 e4
  have r5 := hf 5 t5 e5
  rw [g0.1, g0.2, cells_str] at r0
  rw [g1.1, g1.2, acells_act] at r1
  rw [g2.1, g2.2, acells_act] at r2
  rw [g3.1, g3.2, acells_pairs] at r3
  rw [g4.1, g4.2, cells_int] at r4
  rw [g5.1, g5.2, cells_str] at r5
  clear hf h e0 e1 e2 e3 e4 e5 g0 g1 g2 g3 g4 g5
  match cs, hcl, xs, hxl with
  | [c0, c1, c2, c3, c4, c5, c6, c7], _, [x0, x1, x2, x3, x4, x5], _ =>
    simp only [List.drop_zero, List.take_succ_cons, List.take_zero, List.drop_succ_cons, List.getElem?_cons_zero, List.getElem?_cons_succ] at r0 r1 r2 r3 r4 r5
    obtain ⟨s0, k0, h0⟩ := astr r0
    obtain ⟨a1, k1, h1⟩ := act_full r1
    obtain ⟨a2, k2, h2⟩ := act_full r2
    obtain ⟨A, l, c, k3, hc, hm, hvl, hok⟩ := slice_full noKid Try.underlying25 acells_pair (by decide) PairT.len (fun h => pair_full h) r3
    obtain ⟨n4, k4⟩ := aint r4
    obtain ⟨s5, k5, h5⟩ := astr r5
    simp only [List.cons.injEq, and_true] at k0 k1 k2 k3 k4 k5
    refine ⟨(⟨s0, a1.act, a1.ty, a2.act, a2.ty, A, l.length, c, n4, s5⟩, ⟨s0, a1, a2, l, n4, s5⟩), by rw [k0, k1.1, k1.2, k2.1, k2.2, k3, k4, k5]; rfl, ?_⟩
    exact ⟨rfl, rfl, rfl, rfl, rfl, rfl, hc, hm, hvl, ⟨h0, h1, h2, h5, hok⟩⟩
set_option maxRecDepth 4000 in
theorem rules_full {fuel : Nat} {cs : List Value} {x : DataW H × List MemPlace} (h : DataW.trod enc Try.prog W base (fun _ => true) held fuel 22 cs = some x) :
    ∃ (A : Option Addr) (l : List RuleT) (c : Nat), cs = [.slice A l.length c] ∧ l.length ≤ c ∧ l.length ≤ 9223372036854775807 ∧ ∃ ds, LU W A ds l := by
  obtain ⟨A, l, c, k, hc, hm, hvl, hok⟩ := slice_full (f := fun q : RuC × RuleT => q.1.row.toList) (Ok := fun q => RuAt W q.1 q.2) (RuC.zero, noRul) Try.underlying22 acells_rule (by decide) (fun q => RuC.len q.1) (fun h => rule_full h) h
  refine ⟨A, l.map (·.2), c, by rw [List.length_map]; exact k, by rw [List.length_map]; exact hc, by rw [List.length_map]; exact hm, l.map (·.1), ⟨?_, by simp, fun i c a h1 h2 => ?_⟩⟩
  · have e : cellsU (l.map (·.1)) = flatF (fun q : RuC × RuleT => q.1.row.toList) l := by simp [cellsU, flatF, List.flatMap_map]
    rw [e]
    exact hvl
  · rw [List.getElem?_map] at h1 h2
    obtain ⟨q, hq, rfl⟩ := Option.map_eq_some_iff.1 h1
    rw [hq] at h2
    simp only [Option.map_some, Option.some.injEq] at h2
    subst h2
    exact hok q (List.mem_of_getElem? hq)
set_option maxRecDepth 4000 in
theorem ord_full {fuel : Nat} {cs : List Value} {x : DataW H × List MemPlace} (h : DataW.trod enc Try.prog W base (fun _ => true) held fuel 28 cs = some x) :
    ∃ a b c d e f : Int, cs = [.int .i64 a, .int .i64 b, .int .i64 c, .int .i64 d, .int .i64 e, .int .i64 f] := by
  obtain ⟨xs, m, rfl, rfl, hcl, hxl, hf⟩ := DataW.trod_array Try.underlying28 h
  rw [acells_ord] at hcl
  rw [cells_int] at hf
  match cs, hcl, xs, hxl with
  | [c0, c1, c2, c3, c4, c5], _, [x0, x1, x2, x3, x4, x5], _ =>
    obtain ⟨a0, k0⟩ := aint (hf 0 (by decide))
    obtain ⟨a1, k1⟩ := aint (hf 1 (by decide))
    obtain ⟨a2, k2⟩ := aint (hf 2 (by decide))
    obtain ⟨a3, k3⟩ := aint (hf 3 (by decide))
    obtain ⟨a4, k4⟩ := aint (hf 4 (by decide))
    obtain ⟨a5, k5⟩ := aint (hf 5 (by decide))
    simp at k0 k1 k2 k3 k4 k5
    exact ⟨a0, a1, a2, a3, a4, a5, by rw [k0, k1, k2, k3, k4, k5]⟩
set_option maxRecDepth 4000 in
theorem sch_full {fuel : Nat} {cs : List Value} {x : DataW H × List MemPlace} (h : DataW.trod enc Try.prog W base (fun _ => true) held fuel 30 cs = some x) : ∃ (c : ScC) (s : SchT), cs = c.row.toList ∧ ScAt W c s := by
  obtain ⟨xs, f1, rfl, rfl, hcl, hxl, hf⟩ := DataW.trod_struct afields_sch h
  rw [acells_sch] at hcl
  rw [asize_sch] at hxl
  obtain ⟨t0, e0, g0⟩ := Option.map_eq_some_iff.1 aff_sch_0
  obtain ⟨t1, e1, g1⟩ := Option.map_eq_some_iff.1 aff_sch_1
  obtain ⟨t2, e2, g2⟩ := Option.map_eq_some_iff.1 aff_sch_2
  obtain ⟨t3, e3, g3⟩ := Option.map_eq_some_iff.1 aff_sch_3
  simp only [Prod.mk.injEq] at g0 g1 g2 g3
  have r0 := hf 0 t0 e0
  have r1 := hf 1 t1 e1
  have r2 := hf 2 t2 e2
  have r3 := hf 3 t3 e3
  rw [g0.1, g0.2, acells_rules] at r0
  rw [g1.1, g1.2, acells_rule] at r1
  rw [g2.1, g2.2, acells_ord] at r2
  rw [g3.1, g3.2, cells_int] at r3
  clear hf h e0 e1 e2 e3 g0 g1 g2 g3
  match cs, hcl, xs, hxl with
  | [c0, c1, c2, c3, c4, c5, c6, c7, c8, c9, c10, c11, c12, c13, c14, c15], _, [x0, x1, x2, x3], _ =>
    simp only [List.drop_zero, List.take_succ_cons, List.take_zero, List.drop_succ_cons, List.getElem?_cons_zero, List.getElem?_cons_succ] at r0 r1 r2 r3
    obtain ⟨A, l, c, k0, hc, hm, ds, hl⟩ := rules_full r0
    obtain ⟨⟨ec, er⟩, k1, he⟩ := rule_full r1
    obtain ⟨o1, o2, o3, o4, o5, o6, k2⟩ := ord_full r2
    obtain ⟨n3, k3⟩ := aint r3
    simp only [RuC.row, List.cons.injEq, and_true] at k0 k1 k2 k3
    obtain ⟨k10, k11, k12, k13, k14, k15, k16, k17⟩ := k1
    obtain ⟨k20, k21, k22, k23, k24, k25⟩ := k2
    exact ⟨⟨A, l.length, c, ec, o1, o2, o3, o4, o5, o6, n3⟩, ⟨l, er, [o1, o2, o3, o4, o5, o6], n3⟩, by rw [k0, k10, k11, k12, k13, k14, k15, k16, k17, k20, k21, k22, k23, k24, k25, k3]; rfl, ⟨rfl, rfl, he, rfl, hc, hm, ds, hl⟩⟩
set_option maxRecDepth 4000 in
/-- A schema that came in. -/
theorem open_sch {r : Reach} {b0 : Nat} {v : Value} {d : DataW H} {p : List MemPlace} (hv : Value.okWide Try.prog W r b0 30 v) (h : DataW.Trod enc Try.prog W base (fun _ => true) held 30 v d p) :
    ∃ (c : ScC) (s : SchT), v = .agg c.row ∧ ScAt W c s := by
  obtain ⟨fuel, hf⟩ := h
  obtain ⟨c, s, hcs, hok⟩ := sch_full hf
  obtain ⟨cs, rfl, hcz⟩ := okWide_struct afields_sch hv
  have e : cs = c.row := by
    apply Array.toList_inj.1
    simpa [Value.cells] using hcs
  subst e
  exact ⟨c, s, rfl, hok⟩
end

end Go.Proofs.Ytegaapeaeffgoaa
