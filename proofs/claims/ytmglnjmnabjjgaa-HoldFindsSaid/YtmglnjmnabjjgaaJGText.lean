/- Texts of runes, and strings that tell them, as plain lists: what each call answers. Slices in memory: what a slice's cells hold, carried over whatever leaves old blocks as they were; rows of the call's own, of runes and of bytes. Paths as lists of numbers: plain functions and facts; no program is named here. The plain answers of layer 1, as functions on lists of pairs of texts: no program is named here. The calls on single bytes and on keys and values answer what the plain functions say; the world stays as it was. Slices of numbers in memory: what a slice's cells hold, carried over whatever leaves old blocks as they were; rows of the call's own_i. Lists of properties in memory: what a slice's cells hold, carried over whatever leaves old blocks as they were. Trees as plain data: what each call answers. Trees in memory: what a node's value and its cells hold, carried over whatever leaves old blocks as they were. Arguments that are trees, opened: what their cells hold; how great they are. An argument that is a list of numbers, opened: what its cells hold. Points compared: plain functions and facts; no program is named here. alike, Check, Same, Above, Left and Compare, and the document's own_i, answer what the plain functions say; memory stays as it was. Same and Above, and the document's own_i, answer how two paths stand; memory stays as it was. Compare, the library's and the document's, answers the order of two paths; memory stays as it was. -/
import Derived.Test.YtmglnjmnabjjgaaProg
import Derived.WalkKit
import Derived.WalkLawsBesides
import Derived.WalkSpells
import Derived.LoopTactic
import Derived.Outline
import Derived.Deep.Draws
import Derived.Deep.QuietTactic
import Derived.BigQuiet
import Derived.Below
import Derived.Laws.OwnMore
import Derived.Laws.MakeOwn
import Derived.Maps.AppendAt
import Derived.Deep.AppendLies
import Derived.RegionTactic
import Derived.OwnWalk
import Derived.WideShapes
import Derived.IntWalk
import Derived.Laws.Strings
import Derived.Laws.EntriesVeiled
import Derived.Test.YtmglnjmnabjjgaaRows
import Derived.ProofKit
import Derived.Deep.Slices
import Derived.SizedLaws
import Derived.OpenShut
import Derived.Deep.Fields
namespace Go.Proofs.Ytmglnjmnabjjgaa
def hval (b : UInt8) : Nat := if b.toNat ≤ 57 then b.toNat - 48 else b.toNat - 87
def val (l : List UInt8) : Nat := l.foldl (fun n b => n * 16 + hval b) 0
end Go.Proofs.Ytmglnjmnabjjgaa

namespace Go.Proofs.Ytmglnjmnabjjgaa
open Go.RowKit
open Go.WideShapes (add_plain)

theorem hd {p : Prop} (h : p) : Hid p := h
set_option maxRecDepth 4000 in
theorem ret_bool {a b : Bool} (h : a = b) : Ending.returned (.bool a) = .returned (.bool b) := by rw [h]
set_option maxRecDepth 4000 in
theorem ret_int {k : IntKind} {a b : Int} (h : a = b) : Ending.returned (.int k a) = .returned (.int k b) := by rw [h]
set_option maxRecDepth 4000 in
theorem below_drewN {B : Nat} {a w : World} (h : Below B a w) (n : Nat) : Below B a (w.drewN n) := ⟨h.os, h.tape, h.output, h.size, h.block⟩
set_option maxRecDepth 4000 in
theorem one_more {p : Nat → Prop} {n : Nat} (h : Hid (∀ j, j < n → p j)) (hn : p n) : Hid (∀ j, j < n + 1 → p j) := fun j hj => by
  by_cases e : j = n
  · subst e; exact hn
  · exact h.out j (by omega)

/-- A call that only reads; one that answers v and leaves old memory. -/
def Quiet (v : Value) (w : World) (e : Ending) (w' : World) : Prop := e = .returned v ∧ ∃ k, w' = w.drewN k
def Still (v : Value) (w : World) (e : Ending) (w' : World) : Prop := e = .returned v ∧ Below w.heap.size w w'
def AllTrue (w : World) (e : Ending) (w' : World) : Prop := e = .returned (.bool true) ∧ Below w.heap.size w w'
set_option maxRecDepth 4000 in
theorem ret_quiet {v v' : Value} {w w' : World} (h : v' = v) (hw : ∃ k, w' = w.drewN k) : Quiet v w (.returned v') w' := ⟨by rw [h], hw⟩
set_option maxRecDepth 4000 in
theorem int_eq {k : IntKind} {a b : Int} (h : a = b) : Value.int k a = .int k b := by rw [h]
set_option maxRecDepth 4000 in
theorem bool_eq {a b : Bool} (h : a = b) : Value.bool a = .bool b := by rw [h]
set_option maxRecDepth 4000 in
theorem Quiet.still {v : Value} {w : World} {e : Ending} {w' : World} (h : Quiet v w e w') : Still v w e w' := by
  obtain ⟨he, k, rfl⟩ := h
  exact ⟨he, below_drewN (Below.refl _ _) _⟩
set_option maxRecDepth 4000 in
theorem calls_still {f : FuncId} {args : Array Value} {v : Value} {w : World} (h : Calls Try.prog f args w (Quiet v w)) : Calls Try.prog f args w (Still v w) := h.mono fun _ _ hq => hq.still
set_option maxRecDepth 4000 in
theorem quiet_in0 {f : FuncId} {args : Array Value} {v : Value} {w : World} {n : Nat} (h : Calls Try.prog f args (w.drewN n) (Quiet v (w.drewN n))) :
    Calls Try.prog f args (w.drewN n) fun e w' => e = .returned v ∧ ∃ m, w' = w.drewN m :=
  h.mono fun _ _ ⟨he, m, hm⟩ => ⟨he, n + m, by rw [hm, World.drewN_drewN]⟩

/-- The cells of a text of runes, and of bytes. -/
def rv (l : List Int) : List Value := l.map (Value.int .i32)
/-- The slice at A holds the values xs, below block B. -/
def VL (w : World) (B : Nat) (A : Option Addr) (xs : List Value) : Prop :=
  xs ≠ [] → ∃ b o, A = some ⟨b, o, none⟩ ∧ b < B ∧ ∀ k u, xs[k]? = some u → w.cell? ⟨b, o + k, none⟩ = some u

section
variable {w w' : World} {B B' : Nat} {A : Option Addr} {xs : List Value}
set_option maxRecDepth 4000 in
theorem VL.keep (h : VL w B A xs) (hk : ∀ p : Addr, p.block < B → w'.cell? p = w.cell? p) : VL w' B A xs := fun hn => by
  obtain ⟨b, o, e, hb, hc⟩ := h hn
  exact ⟨b, o, e, hb, fun k u hku => (hk _ hb).trans (hc k u hku)⟩
set_option maxRecDepth 4000 in
theorem VL.below (h : VL w B A xs) (hb : Below B w w') : VL w' B A xs := h.keep fun _ hp => hb.cell hp
set_option maxRecDepth 4000 in
theorem VL.more (h : VL w B A xs) (hB : B ≤ B') : VL w B' A xs := fun hn => by
  obtain ⟨b, o, e, hb, hc⟩ := h hn
  exact ⟨b, o, e, by omega, hc⟩
set_option maxRecDepth 4000 in
theorem VL.later (h : VL w w.heap.size A xs) (hb : Below w.heap.size w w') : VL w' w'.heap.size A xs := (h.below hb).more hb.size
set_option maxRecDepth 4000 in
theorem VL.nil (w : World) (B : Nat) (A : Option Addr) : VL w B A [] := fun h => absurd rfl h
end
section
variable {t : TypeId} {w w' : World} {b b' : Nat} {v : Value} {xs : List Value}
end

/-- Nothing that was there has turned but v's own row. -/
structure Grew (b : Nat) (v : Value) (W w' : World) : Prop where
  size : W.heap.size ≤ w'.heap.size
  below : ∀ B w0, B ≤ b → B ≤ W.heap.size → Below B w0 W → Below B w0 w'
  cell : ∀ p : Addr, p.block < W.heap.size → some p.block ≠ v.ownBlock → w'.cell? p = W.cell? p
set_option maxRecDepth 4000 in
theorem Grew.refl (b : Nat) (v : Value) (W : World) : Grew b v W W := ⟨Nat.le_refl _, fun _ _ _ _ h => h, fun _ _ _ => rfl⟩

set_option maxRecDepth 4000 in
theorem wpList_append_none {w : World} {ops : Array Oper} {rest : List Oper} {o : Oper} {a : Act} {Q : Exit → Act → World → Prop} (hgd : o.guard = none) (s x : Operand) (t : TypeId)
    (ho : o.op = .call { callee := .builtin .append, args := #[s, x], argTypes := #[t, t] })
    (base : Nat) (e : TypeId) (i : TypeInfo) (size : Nat) (ht : Try.prog.underlying t = some (.slice e)) (hi : Try.prog.info? e = some i)
    (v : Value) (n : Nat) (xs : List Value) (hs : a.eval s = v) (hown : w.ownsRow base e size v n xs) (c : Nat) (hx : a.eval x = .slice none 0 c)
    (h : wpList Try.prog ops Q rest (a.put o.dst v) w) : wpList Try.prog ops Q (o :: rest) a w := by
  refine wpList_plain hgd fun K hK => ?_
  have hrun : (Builtin.append_ #[t, t] o.type #[v, .slice none 0 c]).run Try.prog w = .ok v w := by
    rcases hown.2 with ⟨rfl, rfl⟩ | ⟨g, cap, cur, rfl, _, _, hnc, _⟩
    · simp [Builtin.append_, run_underlying ht, sizeOf, typeInfo, hi, Builtin.lenOf, Builtin.firstCells]
    · simp [Builtin.append_, run_underlying ht, sizeOf, typeInfo, hi, Builtin.lenOf, Builtin.firstCells, hnc, storeCells]
  unfold Oper.wp
  simp [execOp, ho, resolve, invoke, builtin, hs, hx, hrun, Result.andThen]
  exact hK _ _ h

end Go.Proofs.Ytmglnjmnabjjgaa

namespace Go.Proofs.Ytmglnjmnabjjgaa

def iAt (l : List Int) (k : Nat) : Int := l.getD k 0
set_option maxRecDepth 4000 in
theorem iAt_eq (l : List Int) (k : Nat) (hk : k < l.length) : iAt l k = l[k] := by
  unfold iAt; rw [List.getD_eq_getElem?_getD, List.getElem?_eq_getElem hk]; rfl

/-- How many numbers both begin with. -/
def alikeN : List Int → List Int → Nat
  | x :: a, y :: b => if x = y then alikeN a b + 1 else 0
  | _, _ => 0

set_option maxRecDepth 4000 in
theorem alikeN_le : ∀ a b : List Int, alikeN a b ≤ a.length ∧ alikeN a b ≤ b.length
  | [], _ => by simp [alikeN]
  | _ :: _, [] => by simp [alikeN]
  | x :: a, y :: b => by
    have := alikeN_le a b
    unfold alikeN
    split <;> simp <;> omega

set_option maxRecDepth 4000 in
theorem alikeN_same : ∀ (a b : List Int) (j : Nat), j < alikeN a b → iAt a j = iAt b j
  | [], _, j => by simp [alikeN]
  | _ :: _, [], j => by simp [alikeN]
  | x :: a, y :: b, j => by
    unfold alikeN
    split
    · rename_i h
      intro hj
      cases j with
      | zero => simpa [iAt] using h
      | succ j => simpa [iAt] using alikeN_same a b j (by omega)
    · intro hj; omega

set_option maxRecDepth 4000 in
theorem alikeN_of : ∀ (a b : List Int) (k : Nat), k ≤ a.length → k ≤ b.length → (∀ j, j < k → iAt a j = iAt b j) → (k < a.length → k < b.length → iAt a k ≠ iAt b k) → alikeN a b = k
  | [], b, k => by intro h; simp [alikeN] at *; omega
  | _ :: _, [], k => by intro _ h; simp [alikeN] at *; omega
  | x :: a, y :: b, k => by
    intro h1 h2 h3 h4
    unfold alikeN
    cases k with
    | zero => rw [if_neg (by simpa [iAt] using h4 (by simp) (by simp))]
    | succ k =>
      rw [if_pos (by simpa [iAt] using h3 0 (by omega))]
      rw [alikeN_of a b k (by simpa using h1) (by simpa using h2) (fun j hj => by simpa [iAt] using h3 (j + 1) (by omega)) (fun g1 g2 => by simpa [iAt] using h4 (by simpa using g1) (by simpa using g2))]

set_option maxRecDepth 4000 in
theorem alikeN_take (a b : List Int) : a.take (alikeN a b) = b.take (alikeN a b) := by
  have hl := alikeN_le a b
  apply List.ext_getElem
  · simp; omega
  · intro i h1 h2
    have hi : i < alikeN a b := by simp at h1; omega
    have := alikeN_same a b i hi
    rw [iAt_eq a i (by omega), iAt_eq b i (by omega)] at this
    simpa using this

set_option maxRecDepth 4000 in
theorem alikeN_prefix (a b : List Int) : alikeN a b = a.length ↔ a <+: b := by
  constructor
  · intro h
    have := alikeN_take a b
    rw [h, List.take_length] at this
    rw [this]
    exact List.take_prefix _ _
  · rintro ⟨c, rfl⟩
    refine alikeN_of a (a ++ c) _ (Nat.le_refl _) (by simp) (fun j hj => ?_) (fun h => absurd h (by omega))
    rw [iAt_eq a j hj, iAt_eq (a ++ c) j (by simp; omega), List.getElem_append_left hj]

set_option maxRecDepth 4000 in
theorem alikeN_eq (a b : List Int) (h : a.length = b.length) : alikeN a b = a.length ↔ a = b := by
  rw [alikeN_prefix]
  constructor
  · intro hp; exact hp.eq_of_length h
  · rintro rfl; exact List.prefix_refl _
set_option maxRecDepth 4000 in
theorem alikeN_self (a : List Int) : alikeN a a = a.length := (alikeN_prefix a a).2 (List.prefix_refl _)

def cmpI (a b : Int) : Int := if a < b then -1 else if b < a then 1 else 0
def cmpL : List Int → List Int → Int
  | [], [] => 0
  | [], _ :: _ => -1
  | _ :: _, [] => 1
  | x :: a, y :: b => if x < y then -1 else if y < x then 1 else cmpL a b
def samI (a b : List Int) : Bool := decide (a = b)
def aboveL (a b : List Int) : Bool := decide (a.length < b.length) && decide (alikeN a b = a.length)
def leftL (a b : List Int) : Bool := decide (alikeN a b + 1 = a.length) && decide (alikeN a b < b.length) && decide (iAt a (alikeN a b) < iAt b (alikeN a b))

set_option maxRecDepth 4000 in
theorem cmpL_in : ∀ a b : List Int, alikeN a b < a.length → alikeN a b < b.length → cmpL a b = cmpI (iAt a (alikeN a b)) (iAt b (alikeN a b))
  | [], _ => by simp [alikeN]
  | _ :: _, [] => by simp [alikeN]
  | x :: a, y :: b => by
    unfold alikeN cmpL
    split
    · rename_i h
      subst h
      intro h1 h2
      rw [if_neg (by omega), if_neg (by omega)]
      simpa [iAt] using cmpL_in a b (by simpa using h1) (by simpa using h2)
    · intro _ _
      simp only [cmpI, iAt, List.getD_cons_zero]
      split
      · rfl
      · rw [if_pos (by omega)]
        split
        · rfl
        · omega
set_option maxRecDepth 4000 in
theorem cmpL_out : ∀ a b : List Int, alikeN a b = a.length ∨ alikeN a b = b.length → cmpL a b = cmpI a.length b.length
  | [], [] => by simp [cmpL, cmpI]
  | [], y :: b => by intro _; simp [cmpL, cmpI]
  | x :: a, [] => by intro _; simp [cmpL, cmpI]; omega
  | x :: a, y :: b => by
    unfold alikeN cmpL
    split
    · rename_i h
      subst h
      intro h1
      rw [if_neg (by omega), if_neg (by omega), cmpL_out a b (by simpa using h1)]
      simp [cmpI]
    · intro h; simp at h

set_option maxRecDepth 4000 in
theorem aboveL_iff (a b : List Int) : aboveL a b = true ↔ a.length < b.length ∧ a <+: b := by
  unfold aboveL; rw [Bool.and_eq_true, decide_eq_true_iff, decide_eq_true_iff, alikeN_prefix]
set_option maxRecDepth 4000 in
theorem leftL_iff (a b : List Int) : leftL a b = true ↔ alikeN a b + 1 = a.length ∧ alikeN a b < b.length ∧ iAt a (alikeN a b) < iAt b (alikeN a b) := by
  unfold leftL; simp only [Bool.and_eq_true, decide_eq_true_iff, and_assoc]
def lastL (l : List Int) : Int := iAt l (l.length - 1)
end Go.Proofs.Ytmglnjmnabjjgaa

namespace Go.Proofs.Ytmglnjmnabjjgaa

abbrev Pr := ByteArray × ByteArray
def noPr : Pr := (ByteArray.empty, ByteArray.empty)
def isLet (c : UInt8) : Bool := decide (97 ≤ (c.toNat : Int)) && decide ((c.toNat : Int) ≤ 122)
def isDig (c : UInt8) : Bool := decide (48 ≤ (c.toNat : Int)) && decide ((c.toNat : Int) ≤ 57)
def isVal (c : UInt8) : Bool := isLet c || isDig c || ((c.toNat : Int) == 45)
def keyB (s : ByteArray) : Bool := decide (1 ≤ s.size) && decide (s.size ≤ 16) && s.data.toList.all isLet
def valB (s : ByteArray) : Bool := decide (s.size ≤ 32) && s.data.toList.all isVal
def leB (a b : ByteArray) : Bool := Op.bytesLess a.toList b.toList || a.toList == b.toList

def prAt (l : List Pr) (k : Nat) : Pr := l.getD k noPr
def stepE (l : List Pr) (k : Nat) : Int :=
  if (keyB (prAt l k).1 && valB (prAt l k).2) = false then 3 else if (decide (0 < k) && leB (prAt l k).1 (prAt l (k - 1)).1) = true then 1 else 0
def firstE (l : List Pr) : Int := (((List.range l.length).map (stepE l)).find? (· != 0)).getD 0
def chk (l : List Pr) : Int := if 16 < l.length then 2 else firstE l

end Go.Proofs.Ytmglnjmnabjjgaa

namespace Go.Proofs.Ytmglnjmnabjjgaa
open Go.RowKit
set_option maxRecDepth 4000 in
theorem more (p : UInt8 → Bool) (s : ByteArray) (k : Nat) (hk : k < s.size) (h : Hid (∀ j (hj : j < s.size), j < k → p s[j] = true)) (hp : p s[k] = true) : Hid (∀ j (hj : j < s.size), j < k + 1 → p s[j] = true) := by
  intro j hj hl
  by_cases e : j = k
  · subst e; exact hp
  · exact h.out j hj (by omega)

end Go.Proofs.Ytmglnjmnabjjgaa

namespace Go.Proofs.Ytmglnjmnabjjgaa
open Go.RowKit
open Go.WideShapes (add_plain)

/-- The slice at A holds the numbers l, below block B. -/
def IL (w : World) (B : Nat) (A : Option Addr) (l : List Int) : Prop :=
  l ≠ [] → ∃ b o, A = some ⟨b, o, none⟩ ∧ b < B ∧ ∀ k, k < l.length → w.cell? ⟨b, o + k, none⟩ = some (.int .i64 (iAt l k))

set_option maxRecDepth 4000 in
theorem IL.keep {w w' : World} {B : Nat} {A : Option Addr} {l : List Int} (h : IL w B A l) (hk : ∀ p : Addr, p.block < B → w'.cell? p = w.cell? p) : IL w' B A l := fun hn => by
  obtain ⟨b, o, e, hb, hc⟩ := h hn
  exact ⟨b, o, e, hb, fun k hkl => (hk _ hb).trans (hc k hkl)⟩
set_option maxRecDepth 4000 in
theorem IL.below {w w' : World} {B : Nat} {A : Option Addr} {l : List Int} (h : IL w B A l) (hb : Below B w w') : IL w' B A l := h.keep fun _ hp => hb.cell hp
set_option maxRecDepth 4000 in
theorem IL.more {w : World} {B B' : Nat} {A : Option Addr} {l : List Int} (h : IL w B A l) (hB : B ≤ B') : IL w B' A l := fun hn => by
  obtain ⟨b, o, e, hb, hc⟩ := h hn
  exact ⟨b, o, e, by omega, hc⟩
set_option maxRecDepth 4000 in
theorem IL.later {w w' : World} {A : Option Addr} {l : List Int} (h : IL w w.heap.size A l) (hb : Below w.heap.size w w') : IL w' w'.heap.size A l := (h.below hb).more hb.size
set_option maxRecDepth 4000 in
theorem IL.at_ {w : World} {B : Nat} {A : Option Addr} {l : List Int} (h : IL w B A l) {k : Nat} (hk : k < l.length) : ∃ b o, A = some ⟨b, o, none⟩ ∧ b < B ∧ w.cell? ⟨b, o + k, none⟩ = some (.int .i64 (iAt l k)) := by
  obtain ⟨b, o, e, hb, hc⟩ := h (by intro e; subst e; simp at hk)
  exact ⟨b, o, e, hb, hc k hk⟩
set_option maxRecDepth 4000 in
theorem IL.nil (w : World) (B : Nat) (A : Option Addr) : IL w B A [] := fun h => absurd rfl h
/-- The value v is a row of the call's own_i (blocks from b on), that holds l. -/
def OwnI (w : World) (b : Nat) (v : Value) (l : List Int) : Prop :=
  ∃ (A : Option Addr) (c : Nat), v = .slice A l.length c ∧ l.length ≤ c ∧ c ≤ maxLen ∧ w.ownsRow b 3 1 v l.length (l.map (Value.int .i64))

set_option maxRecDepth 4000 in
theorem OwnI.of_own {w : World} {b n : Nat} {v : Value} {l : List Int} (h : w.ownsRow b 3 1 v n (l.map (Value.int .i64))) (hn : n = l.length) : OwnI w b v l := by
  subst hn
  rcases h.2 with ⟨e, h0⟩ | ⟨g, cap, cur, e, _, _, h3, h4, _⟩
  · exact ⟨none, 0, by rw [e, h0], by omega, by unfold maxLen; omega, h⟩
  · exact ⟨some ⟨g, 0, none⟩, cap, e, h3, h4, h⟩
set_option maxRecDepth 4000 in
theorem OwnI.own {w : World} {b : Nat} {v : Value} {l : List Int} (h : OwnI w b v l) : w.ownsRow b 3 1 v l.length (l.map (Value.int .i64)) := by
  obtain ⟨_, _, _, _, _, h⟩ := h
  exact h
set_option maxRecDepth 4000 in
theorem OwnI.nil (w : World) (b : Nat) : OwnI w b (.slice none 0 0) [] := OwnI.of_own (World.ownsRow_nil w b 3 1) rfl
set_option maxRecDepth 4000 in
theorem OwnI.lt {w : World} {b : Nat} {v : Value} {l : List Int} (h : OwnI w b v l) {j : Nat} (hj : v.ownBlock = some j) : b ≤ j ∧ j < w.heap.size := h.own.lt j hj
set_option maxRecDepth 4000 in
theorem OwnI.weaken {w : World} {b b' : Nat} {v : Value} {l : List Int} (h : OwnI w b v l) (hb : b' ≤ b) : OwnI w b' v l := by
  obtain ⟨A, c, e, h1, h2, h3⟩ := h
  refine ⟨A, c, e, h1, h2, h3.1, ?_⟩
  rcases h3.2 with h4 | ⟨g, cap, cur, e2, hbg, rest⟩
  · exact .inl h4
  · exact .inr ⟨g, cap, cur, e2, by omega, rest⟩
set_option maxRecDepth 4000 in
theorem OwnI.open_ {w : World} {b : Nat} {v : Value} {l : List Int} (h : OwnI w b v l) : ∃ (A : Option Addr) (c : Nat), v = .slice A l.length c ∧ l.length ≤ c ∧ c ≤ maxLen ∧ IL w w.heap.size A l := by
  obtain ⟨A, c, e, h1, h2, h3⟩ := h
  refine ⟨A, c, e, h1, h2, fun hn => ?_⟩
  have hl : 0 < l.length := List.length_pos_iff.2 hn
  rcases h3.2 with ⟨_, h0⟩ | ⟨g, cap, cur, e2, hbg, hg, _⟩
  · omega
  · have e3 : A = some ⟨g, 0, none⟩ := by
      have := e.symm.trans e2
      injection this
    subst e3
    refine ⟨g, 0, rfl, (Array.getElem?_eq_some_iff.1 hg).1, fun k hk => ?_⟩
    have := h3.cells (g := g) (by rw [e]; rfl) k (.int .i64 (iAt l k)) (by simp [iAt_eq l k hk, hk])
    rwa [add_plain] at this

end Go.Proofs.Ytmglnjmnabjjgaa

namespace Go.Proofs.Ytmglnjmnabjjgaa
open Go.RowKit

/-- The slice at A holds the properties l, below block B. -/
def PL (w : World) (B : Nat) (A : Option Addr) (l : List Pr) : Prop :=
  l ≠ [] → ∃ b o, A = some ⟨b, o, none⟩ ∧ b < B ∧ ∀ k, k < l.length → w.cell? ⟨b, o + k * 2, none⟩ = some (.string (prAt l k).1) ∧ w.cell? ⟨b, o + k * 2 + 1, none⟩ = some (.string (prAt l k).2)

set_option maxRecDepth 4000 in
theorem PL.keep {w w' : World} {B : Nat} {A : Option Addr} {l : List Pr} (h : PL w B A l) (hk : ∀ p : Addr, p.block < B → w'.cell? p = w.cell? p) : PL w' B A l := fun hn => by
  obtain ⟨b, o, e, hb, hc⟩ := h hn
  exact ⟨b, o, e, hb, fun k hkl => ⟨(hk _ hb).trans (hc k hkl).1, (hk _ hb).trans (hc k hkl).2⟩⟩
set_option maxRecDepth 4000 in
theorem PL.below {w w' : World} {B : Nat} {A : Option Addr} {l : List Pr} (h : PL w B A l) (hb : Below B w w') : PL w' B A l := h.keep fun _ hp => hb.cell hp
set_option maxRecDepth 4000 in
theorem PL.more {w : World} {B B' : Nat} {A : Option Addr} {l : List Pr} (h : PL w B A l) (hB : B ≤ B') : PL w B' A l := fun hn => by
  obtain ⟨b, o, e, hb, hc⟩ := h hn
  exact ⟨b, o, e, by omega, hc⟩
/-- The texts of a list are no longer than a length can be. -/
def Wide (l : List Pr) : Prop := l.length ≤ 9223372036854775807 ∧ ∀ p ∈ l, p.1.size ≤ 9223372036854775807 ∧ p.2.size ≤ 9223372036854775807
end Go.Proofs.Ytmglnjmnabjjgaa

namespace Go.Proofs.Ytmglnjmnabjjgaa
open Go.RowKit

/-- A tree: leaf or not, properties, text, Kids. -/
inductive NT where
  | mk (lf : Bool) (ps : List Pr) (tx : List Int) (ks : List NT)

def NT.lf : NT → Bool
  | .mk a _ _ _ => a
def NT.ps : NT → List Pr
  | .mk _ a _ _ => a
def NT.tx : NT → List Int
  | .mk _ _ a _ => a
def NT.ks : NT → List NT
  | .mk _ _ _ a => a
section
variable {σ : Type} (step : σ → NT → Bool × σ)
variable {step}
end

end Go.Proofs.Ytmglnjmnabjjgaa

namespace Go.Proofs.Ytmglnjmnabjjgaa
open Go.RowKit

/-- How many there are of each thing: as many as a slice may hold. -/
def FitN (ps : List Pr) (nt nk pc tc kc : Nat) : Prop := Wide ps ∧ ps.length ≤ 4398046511104 ∧ nt ≤ 35184372088832 ∧ nk ≤ 1759218604441 ∧ ps.length ≤ pc ∧ nt ≤ tc ∧ nk ≤ kc
/-- The four cells from q on in block b hold the node u. -/
def Cells4 (w : World) (b q : Nat) (u : Value) : Prop :=
  ∃ c0 c1 c2 c3, u = .agg #[c0, c1, c2, c3] ∧ w.cell? ⟨b, q, none⟩ = some c0 ∧ w.cell? ⟨b, q + 1, none⟩ = some c1 ∧ w.cell? ⟨b, q + 2, none⟩ = some c2 ∧ w.cell? ⟨b, q + 3, none⟩ = some c3
/-- The value v is the node n, of depth at most d, all of it below block B. -/
def NodeAt : Nat → World → Nat → Value → NT → Prop
  | 0, _, _, _, _ => False
  | d + 1, w, B, v, n => ∃ PA pc TA tc KA kc, v = .agg #[.bool n.lf, .slice PA n.ps.length pc, .slice TA n.tx.length tc, .slice KA n.ks.length kc] ∧ PL w B PA n.ps ∧ VL w B TA (rv n.tx) ∧ FitN n.ps n.tx.length n.ks.length pc tc kc ∧
      ∀ k m, n.ks[k]? = some m → ∃ b o u, KA = some ⟨b, o, none⟩ ∧ b < B ∧ NodeAt d w B u m ∧ Cells4 w b (o + k * 4) u
/-- The slice at A holds the nodes ks. -/
def Kids (d : Nat) (w : World) (B : Nat) (A : Option Addr) (ks : List NT) : Prop :=
  ∀ k m, ks[k]? = some m → ∃ b o u, A = some ⟨b, o, none⟩ ∧ b < B ∧ NodeAt d w B u m ∧ Cells4 w b (o + k * 4) u

set_option maxRecDepth 4000 in
theorem Cells4.keep {w w' : World} {b q : Nat} {u : Value} (h : Cells4 w b q u) (hk : ∀ p : Addr, p.block = b → w'.cell? p = w.cell? p) : Cells4 w' b q u := by
  obtain ⟨c0, c1, c2, c3, e, h0, h1, h2, h3⟩ := h
  exact ⟨c0, c1, c2, c3, e, (hk _ rfl).trans h0, (hk _ rfl).trans h1, (hk _ rfl).trans h2, (hk _ rfl).trans h3⟩
set_option maxRecDepth 4000 in
theorem NodeAt.keep {w w' : World} {B : Nat} (hk : ∀ p : Addr, p.block < B → w'.cell? p = w.cell? p) : ∀ {d : Nat} {v : Value} {n : NT}, NodeAt d w B v n → NodeAt d w' B v n
  | 0, _, _, h => h
  | d + 1, _, _, ⟨PA, pc, TA, tc, KA, kc, e, hp, ht, hf, hks⟩ => ⟨PA, pc, TA, tc, KA, kc, e, hp.keep hk, ht.keep hk, hf, fun k m hm => by
      obtain ⟨b, o, u, e1, hb, hn, hc⟩ := hks k m hm
      exact ⟨b, o, u, e1, hb, hn.keep hk, hc.keep fun p hp => hk p (by omega)⟩⟩
set_option maxRecDepth 4000 in
theorem NodeAt.more {w : World} {B B' : Nat} (hB : B ≤ B') : ∀ {d : Nat} {v : Value} {n : NT}, NodeAt d w B v n → NodeAt d w B' v n
  | 0, _, _, h => h
  | d + 1, _, _, ⟨PA, pc, TA, tc, KA, kc, e, hp, ht, hf, hks⟩ => ⟨PA, pc, TA, tc, KA, kc, e, hp.more hB, ht.more hB, hf, fun k m hm => by
      obtain ⟨b, o, u, e1, hb, hn, hc⟩ := hks k m hm
      exact ⟨b, o, u, e1, by omega, hn.more hB, hc⟩⟩
set_option maxRecDepth 4000 in
theorem NodeAt.below {w w' : World} {B d : Nat} {v : Value} {n : NT} (h : NodeAt d w B v n) (hb : Below B w w') : NodeAt d w' B v n := h.keep fun _ hp => hb.cell hp
set_option maxRecDepth 4000 in
theorem NodeAt.later {w w' : World} {d : Nat} {v : Value} {n : NT} (h : NodeAt d w w.heap.size v n) (hb : Below w.heap.size w w') : NodeAt d w' w'.heap.size v n := (h.below hb).more hb.size
set_option maxRecDepth 4000 in
theorem NodeAt.shut {d : Nat} {w : World} {B : Nat} {lf : Bool} {ps : List Pr} {tx : List Int} {ks : List NT} {PA TA KA : Option Addr} {pc tc kc np nt nk : Nat} (hnp : np = ps.length) (hnt : nt = tx.length) (hnk : nk = ks.length) (hp : PL w B PA ps) (ht : VL w B TA (rv tx)) (hf : FitN ps tx.length ks.length pc tc kc) (hks : Kids d w B KA ks) :
    NodeAt (d + 1) w B (.agg #[.bool lf, .slice PA np pc, .slice TA nt tc, .slice KA nk kc]) (.mk lf ps tx ks) := by
  subst hnp hnt hnk
  exact ⟨PA, pc, TA, tc, KA, kc, rfl, hp, ht, hf, hks⟩
end Go.Proofs.Ytmglnjmnabjjgaa

namespace Go.Proofs.Ytmglnjmnabjjgaa
open Go.ChangeShapes Go.WideShapes Go.RowKit Go.Deep

theorem own : ownKnob Try.prog.godebug = none := by kernel_rfl
set_option maxRecDepth 4000 in
theorem laidOut : laidOutB Try.prog = true := by kernel_rfl
set_option maxRecDepth 4000 in
theorem cell_spot {w : World} {a : Addr} {v : Value} (h : w.cell? a = some v) : a.block < w.heap.size ∧ a.spot = none := by
  unfold World.cell? at h
  cases hb : w.heap[a.block]? with
  | none => rw [hb] at h; cases h
  | some o =>
    rw [hb] at h
    refine ⟨(Array.getElem?_eq_some_iff.1 hb).1, ?_⟩
    cases o <;> simp at h
    exact h.1

/-! What the bound gives. -/
section
variable {H : Type}
end

section
variable {H : Type} {enc : TypeId × Value → H} {W : World} {base : Nat} {sp : Nat → Bool} {held : Bool}
instance : Inhabited NT := ⟨.mk false [] [] []⟩

end

end Go.Proofs.Ytmglnjmnabjjgaa

namespace Go.Proofs.Ytmglnjmnabjjgaa
open Go.ChangeShapes Go.WideShapes Go.RowKit Go.Deep

theorem cells_int : Try.prog.cellsOf 3 = 1 := by kernel_rfl
set_option maxRecDepth 4000 in
theorem cell_lt {w : World} {a : Addr} {v : Value} (h : w.cell? a = some v) : a.block < w.heap.size ∧ a.spot = none := by
  unfold World.cell? at h
  cases hb : w.heap[a.block]? with
  | none => rw [hb] at h; cases h
  | some o =>
    rw [hb] at h
    refine ⟨(Array.getElem?_eq_some_iff.1 hb).1, ?_⟩
    cases o <;> simp at h
    exact h.1
end Go.Proofs.Ytmglnjmnabjjgaa

namespace Go.Proofs.Ytmglnjmnabjjgaa
/-- A point: its path, its Off. -/
def cmpP (a b : List Int × Int) : Int := if cmpL a.1 b.1 = 0 then cmpI a.2 b.2 else cmpL a.1 b.1
def samP (a b : List Int × Int) : Bool := decide (a = b)
/-! Points. -/
end Go.Proofs.Ytmglnjmnabjjgaa

namespace Go.Proofs.Ytmglnjmnabjjgaa
open Go.RowKit

set_option maxHeartbeats 2000000 in
theorem palike_any (A B : Option Addr) (l m : List Int) (c d : Nat) (w : World) (hl : l.length ≤ 9223372036854775807) (hm : m.length ≤ 9223372036854775807) (hp : IL w w.heap.size A l) (hq : IL w w.heap.size B m) :
    Calls Try.prog 32 #[.slice A l.length c, .slice B m.length d] w (Quiet (.int .i64 (alikeN l m)) w) := by
  have HP := hd hp
  have HQ := hd hq
  clear hp hq
  by_cases hml : m.length < l.length
  all_goals
    go_enter Try.func32, Try.ntmps32
    go_wp2
    go_loopw [13] (fun i wr => ∃ n : Nat, n ≤ l.length ∧ n ≤ m.length ∧ i = .int .i64 n ∧ (∃ k, wr = w.drewN k) ∧ Hid (∀ j, j < n → iAt l j = iAt m j)) (fun i _ => l.length - (intOf i).toNat)
    case atStart => exact ⟨0, Nat.zero_le _, Nat.zero_le _, rfl, ⟨0, rfl⟩, fun j hj => absurd hj (Nat.not_lt_zero _)⟩
    case round =>
      obtain ⟨n, hn1, hn2, rfl, ⟨kd, rfl⟩, HA⟩ := hrel
      by_cases hlt : n < l.length ∧ n < m.length
      · obtain ⟨h1, h2⟩ := hlt
        obtain ⟨b1, o1, rfl, hl1, c1⟩ := HP.out.at_ h1
        obtain ⟨b2, o2, rfl, hl2, c2⟩ := HQ.out.at_ h2
        by_cases hs : iAt l n = iAt m n
        · have HB := one_more (p := fun j => iAt l j = iAt m j) HA hs
          have hx : (iAt l n != iAt m n) = false := by simp [hs]
          clear HA hs
          go_wp2_with fail
          go_quiet (fail)
          go_wp2
          go_roundw
          case rel => exact ⟨n + 1, by omega, by omega, by go_num, (by first | exact ⟨_, rfl⟩ | exact ⟨_, World.drewN_drewN _ _ _⟩ | exact ⟨_, (World.drewN_drewN _ _ _).trans (World.drewN_drewN _ _ _)⟩), HB⟩
          case measure => simp [intOf]; omega
        · have HF := hd (alikeN_of l m n (by omega) (by omega) HA.out (fun _ _ => hs))
          have hx : (iAt l n != iAt m n) = true := by simp [hs]
          clear HA hs
          go_wp2_with fail
          go_quiet (fail)
          go_wp2
          go_ret
          exact ret_quiet (int_eq (by rw [HF.out])) (by first | exact ⟨_, rfl⟩ | exact ⟨_, World.drewN_drewN _ _ _⟩ | exact ⟨_, (World.drewN_drewN _ _ _).trans (World.drewN_drewN _ _ _)⟩)
      · have HF := hd (alikeN_of l m n (by omega) (by omega) HA.out (fun _ _ => by omega))
        first | (have hx : ¬ n < m.length := by omega) | skip
        first | (have hy : ¬ n < l.length := by omega) | skip
        clear HA
        go_wp2
        go_ret
        exact ret_quiet (int_eq (by rw [HF.out]; omega)) ⟨kd, rfl⟩

end Go.Proofs.Ytmglnjmnabjjgaa

namespace Go.Proofs.Ytmglnjmnabjjgaa
open Go.RowKit

theorem isame_yes (l m : List Int) (h : l.length = m.length) (h2 : alikeN l m = l.length) : samI l m = true := by
  unfold samI; exact decide_eq_true ((alikeN_eq l m h).1 h2)
set_option maxRecDepth 4000 in
theorem isame_no (l m : List Int) (h : l.length ≠ m.length ∨ alikeN l m ≠ l.length) : samI l m = false := by
  unfold samI
  refine decide_eq_false ?_
  rintro rfl
  rcases h with h | h
  · exact h rfl
  · exact h (alikeN_self l)
set_option maxRecDepth 4000 in
theorem above_yes (l m : List Int) (h : l.length < m.length) (h2 : alikeN l m = l.length) : aboveL l m = true := by
  unfold aboveL; simp [h, h2]
set_option maxRecDepth 4000 in
theorem above_no (l m : List Int) (h : ¬ l.length < m.length ∨ alikeN l m ≠ l.length) : aboveL l m = false := by
  unfold aboveL
  rcases h with h | h <;> simp [h]

set_option maxRecDepth 4000 in
set_option maxHeartbeats 2000000 in
theorem isame_any (A B : Option Addr) (l m : List Int) (c d : Nat) (w : World) (hl : l.length ≤ 9223372036854775807) (hm : m.length ≤ 9223372036854775807) (hp : IL w w.heap.size A l) (hq : IL w w.heap.size B m) :
    Calls Try.prog 20 #[.slice A l.length c, .slice B m.length d] w (Quiet (.bool (samI l m)) w) := by
  have HC := hd (palike_any A B l m c d w hl hm hp hq)
  clear hp hq
  by_cases h1 : l.length = m.length
  · have hx : ((l.length : Int) == (m.length : Int)) = true := by simp [h1]
    by_cases h2 : alikeN l m = l.length
    · have hy : ((alikeN l m : Int) == (l.length : Int)) = true := by simp [h2]
      have HF := hd (isame_yes l m h1 h2)
      clear h1 h2
      go_enter Try.func20, Try.ntmps20
      go_wp2_with (go_at_call 32; refine HC.out.mono ?_; rintro e w' ⟨rfl, kd, rfl⟩)
      go_ret
      exact ret_quiet (bool_eq (by rw [HF.out])) (by first | exact ⟨_, rfl⟩ | exact ⟨_, World.drewN_drewN _ _ _⟩ | exact ⟨_, (World.drewN_drewN _ _ _).trans (World.drewN_drewN _ _ _)⟩)
    · have hy : ((alikeN l m : Int) == (l.length : Int)) = false := by simp; omega
      have HF := hd (isame_no l m (.inr h2))
      clear h1 h2
      go_enter Try.func20, Try.ntmps20
      go_wp2_with (go_at_call 32; refine HC.out.mono ?_; rintro e w' ⟨rfl, kd, rfl⟩)
      go_ret
      exact ret_quiet (bool_eq (by rw [HF.out])) (by first | exact ⟨_, rfl⟩ | exact ⟨_, World.drewN_drewN _ _ _⟩ | exact ⟨_, (World.drewN_drewN _ _ _).trans (World.drewN_drewN _ _ _)⟩)
  · have hx : ((l.length : Int) == (m.length : Int)) = false := by simp; omega
    have HF := hd (isame_no l m (.inl h1))
    clear h1
    go_enter Try.func20, Try.ntmps20
    go_wp2
    go_ret
    exact ret_quiet (bool_eq (by rw [HF.out])) ⟨0, rfl⟩

set_option maxRecDepth 4000 in
set_option maxHeartbeats 2000000 in
theorem above_any (A B : Option Addr) (l m : List Int) (c d : Nat) (w : World) (hl : l.length ≤ 9223372036854775807) (hm : m.length ≤ 9223372036854775807) (hp : IL w w.heap.size A l) (hq : IL w w.heap.size B m) :
    Calls Try.prog 67 #[.slice A l.length c, .slice B m.length d] w (Quiet (.bool (aboveL l m)) w) := by
  have HC := hd (palike_any A B l m c d w hl hm hp hq)
  clear hp hq
  by_cases h1 : l.length < m.length
  · by_cases h2 : alikeN l m = l.length
    · have hy : ((alikeN l m : Int) == (l.length : Int)) = true := by simp [h2]
      have HF := hd (above_yes l m h1 h2)
      clear h2
      go_enter Try.func67, Try.ntmps67
      go_wp2_with (go_at_call 32; refine HC.out.mono ?_; rintro e w' ⟨rfl, kd, rfl⟩)
      go_ret
      exact ret_quiet (bool_eq (by rw [HF.out])) (by first | exact ⟨_, rfl⟩ | exact ⟨_, World.drewN_drewN _ _ _⟩ | exact ⟨_, (World.drewN_drewN _ _ _).trans (World.drewN_drewN _ _ _)⟩)
    · have hy : ((alikeN l m : Int) == (l.length : Int)) = false := by simp; omega
      have HF := hd (above_no l m (.inr h2))
      clear h2
      go_enter Try.func67, Try.ntmps67
      go_wp2_with (go_at_call 32; refine HC.out.mono ?_; rintro e w' ⟨rfl, kd, rfl⟩)
      go_ret
      exact ret_quiet (bool_eq (by rw [HF.out])) (by first | exact ⟨_, rfl⟩ | exact ⟨_, World.drewN_drewN _ _ _⟩ | exact ⟨_, (World.drewN_drewN _ _ _).trans (World.drewN_drewN _ _ _)⟩)
  · have hx : decide (l.length < m.length) = false := decide_eq_false h1
    have HF := hd (above_no l m (.inl h1))
    clear h1
    go_enter Try.func67, Try.ntmps67
    go_wp2
    go_ret
    exact ret_quiet (bool_eq (by rw [HF.out])) ⟨0, rfl⟩

set_option maxRecDepth 4000 in
set_option maxHeartbeats 2000000 in
theorem irsame_any (A B : Option Addr) (l m : List Int) (c d : Nat) (w : World) (hl : l.length ≤ 9223372036854775807) (_hm : m.length ≤ 9223372036854775807) (hp : IL w w.heap.size A l) (hq : IL w w.heap.size B m) :
    Calls Try.prog 31 #[.slice A l.length c, .slice B m.length d] w (Quiet (.bool (samI l m)) w) := by
  have HP := hd hp
  have HQ := hd hq
  clear hp hq
  by_cases hlm : l.length = m.length
  · have hx : ((l.length : Int) != (m.length : Int)) = false := by simp; omega
    have HL := hd hlm
    clear hlm
    go_enter Try.func31, Try.ntmps31
    go_wp2
    go_loopw [13] (fun i wr => ∃ n : Nat, n ≤ l.length ∧ i = .int .i64 n ∧ (∃ k, wr = w.drewN k) ∧ Hid (∀ j, j < n → iAt l j = iAt m j)) (fun i _ => l.length - (intOf i).toNat)
    case atStart => exact ⟨0, Nat.zero_le _, rfl, ⟨0, rfl⟩, fun j hj => absurd hj (Nat.not_lt_zero _)⟩
    case round =>
      obtain ⟨n, hn1, rfl, ⟨kd, rfl⟩, HA⟩ := hrel
      by_cases h1 : n < l.length
      · have h2 : n < m.length := by have := HL.out; omega
        obtain ⟨b1, o1, rfl, hl1, c1⟩ := HP.out.at_ h1
        obtain ⟨b2, o2, rfl, hl2, c2⟩ := HQ.out.at_ h2
        by_cases hs : iAt l n = iAt m n
        · have HB := one_more (p := fun j => iAt l j = iAt m j) HA hs
          have hy : (iAt l n != iAt m n) = false := by simp [hs]
          clear HA hs
          go_wp2_with fail
          go_quiet (fail)
          go_wp2
          go_roundw
          case rel => exact ⟨n + 1, by omega, by go_num, (by first | exact ⟨_, rfl⟩ | exact ⟨_, World.drewN_drewN _ _ _⟩ | exact ⟨_, (World.drewN_drewN _ _ _).trans (World.drewN_drewN _ _ _)⟩), HB⟩
          case measure => simp [intOf]; omega
        · have HF := hd (isame_no l m (.inr (by have := alikeN_of l m n (by omega) (by omega) HA.out (fun _ _ => hs); omega)))
          have hy : (iAt l n != iAt m n) = true := by simp [hs]
          clear HA hs
          go_wp2_with fail
          go_quiet (fail)
          go_wp2
          go_ret
          exact ret_quiet (bool_eq (by rw [HF.out])) (by first | exact ⟨_, rfl⟩ | exact ⟨_, World.drewN_drewN _ _ _⟩ | exact ⟨_, (World.drewN_drewN _ _ _).trans (World.drewN_drewN _ _ _)⟩)
      · have HF := hd (isame_yes l m HL.out (by have := alikeN_of l m n (by omega) (by have := HL.out; omega) HA.out (fun _ _ => by omega); omega))
        clear HA
        go_wp2
        go_ret
        exact ret_quiet (bool_eq (by rw [HF.out])) (by first | exact ⟨_, rfl⟩ | exact ⟨_, World.drewN_drewN _ _ _⟩ | exact ⟨_, (World.drewN_drewN _ _ _).trans (World.drewN_drewN _ _ _)⟩)
  · have hx : ((l.length : Int) != (m.length : Int)) = true := by simp; omega
    have HF := hd (isame_no l m (.inl hlm))
    clear hlm
    go_enter Try.func31, Try.ntmps31
    go_wp2
    go_ret
    exact ret_quiet (bool_eq (by rw [HF.out])) ⟨0, rfl⟩

end Go.Proofs.Ytmglnjmnabjjgaa

namespace Go.Proofs.Ytmglnjmnabjjgaa
open Go.RowKit

theorem nan_any (x : Int) (w : World) : Calls Try.prog 81 #[.int .i64 x] w fun e w' => e = .returned (.bool false) ∧ w = w' := by
  go_enter Try.func81, Try.ntmps81
  go_wp2
  go_ret
  exact ⟨ret_bool (by simp), rfl⟩

set_option maxRecDepth 4000 in
theorem cmp_any (x y : Int) (w : World) : Calls Try.prog 75 #[.int .i64 x, .int .i64 y] w fun e w' => e = .returned (.int .i64 (cmpI x y)) ∧ w = w' := by
  by_cases h1 : x < y
  · go_enter Try.func75, Try.ntmps75
    go_wp2_with (go_at_call 81; refine (nan_any _ _).mono ?_; rintro e w' ⟨rfl, rfl⟩)
    go_ret
    exact ⟨ret_int (by unfold cmpI; rw [if_pos h1]), rfl⟩
  · by_cases h2 : y < x
    · go_enter Try.func75, Try.ntmps75
      go_wp2_with (go_at_call 81; refine (nan_any _ _).mono ?_; rintro e w' ⟨rfl, rfl⟩)
      go_ret
      exact ⟨ret_int (by unfold cmpI; rw [if_neg (by omega), if_pos h2]), rfl⟩
    · go_enter Try.func75, Try.ntmps75
      go_wp2_with (go_at_call 81; refine (nan_any _ _).mono ?_; rintro e w' ⟨rfl, rfl⟩)
      go_ret
      exact ⟨ret_int (by unfold cmpI; rw [if_neg (by omega), if_neg (by omega)]), rfl⟩
set_option maxRecDepth 4000 in
theorem cmp_quiet (x y : Int) (w : World) (a n : Nat) : Calls Try.prog 75 #[.int .i64 x, .int .i64 y] (w.drewN (a + n)) fun e w' => e = .returned (.int .i64 (cmpI x y)) ∧ ∃ m, w' = w.drewN (a + m) :=
  (cmp_any x y _).mono fun _ _ ⟨he, hw⟩ => ⟨he, n, hw.symm⟩

set_option maxRecDepth 4000 in
set_option maxHeartbeats 2000000 in
theorem compare_any (A B : Option Addr) (l m : List Int) (c d : Nat) (w : World) (hl : l.length ≤ 9223372036854775807) (hm : m.length ≤ 9223372036854775807) (hp : IL w w.heap.size A l) (hq : IL w w.heap.size B m) :
    Calls Try.prog 74 #[.slice A l.length c, .slice B m.length d] w (Quiet (.int .i64 (cmpL l m)) w) := by
  have HC := hd (palike_any A B l m c d w hl hm hp hq)
  have hN := alikeN_le l m
  have HI := hd (cmpL_in l m)
  have HO := hd (cmpL_out l m)
  obtain ⟨K, hK⟩ : ∃ K, K = alikeN l m := ⟨_, rfl⟩
  rw [← hK] at HC hN HI HO
  clear hK
  by_cases h1 : K < l.length ∧ K < m.length
  · obtain ⟨h1, h2⟩ := h1
    obtain ⟨b1, o1, rfl, hl1, c1⟩ := hp.at_ h1
    obtain ⟨b2, o2, rfl, hl2, c2⟩ := hq.at_ h2
    have HF := hd (HI.out h1 h2)
    clear hp hq HI HO hN
    go_enter Try.func74, Try.ntmps74
    go_wp2_with (go_at_call 32; refine HC.out.mono ?_; rintro e w' ⟨rfl, kd, rfl⟩)
    go_quiet ((go_at_call 75; exact cmp_quiet _ _ _ _ _))
    go_wp2
    go_ret
    exact ret_quiet (int_eq (by rw [HF.out])) (by first | exact ⟨_, rfl⟩ | exact ⟨_, World.drewN_drewN _ _ _⟩ | exact ⟨_, (World.drewN_drewN _ _ _).trans (World.drewN_drewN _ _ _)⟩)
  · have HF := hd (HO.out (by omega))
    clear hp hq HI HO
    by_cases h3 : K < l.length
    · have h4 : decide (K < m.length) = false := decide_eq_false (by omega)
      clear hN h1
      go_enter Try.func74, Try.ntmps74
      go_wp2_with (first | (go_at_call 32; refine HC.out.mono ?_; rintro e w' ⟨rfl, kd, rfl⟩) | (go_at_call 75; refine (cmp_any _ _ _).mono ?_; rintro e w' ⟨rfl, rfl⟩))
      go_ret
      exact ret_quiet (int_eq (by rw [HF.out])) (by first | exact ⟨_, rfl⟩ | exact ⟨_, World.drewN_drewN _ _ _⟩ | exact ⟨_, (World.drewN_drewN _ _ _).trans (World.drewN_drewN _ _ _)⟩)
    · have h4 : decide (K < l.length) = false := decide_eq_false (by omega)
      clear hN h1 h3
      go_enter Try.func74, Try.ntmps74
      go_wp2_with (first | (go_at_call 32; refine HC.out.mono ?_; rintro e w' ⟨rfl, kd, rfl⟩) | (go_at_call 75; refine (cmp_any _ _ _).mono ?_; rintro e w' ⟨rfl, rfl⟩))
      go_ret
      exact ret_quiet (int_eq (by rw [HF.out])) (by first | exact ⟨_, rfl⟩ | exact ⟨_, World.drewN_drewN _ _ _⟩ | exact ⟨_, (World.drewN_drewN _ _ _).trans (World.drewN_drewN _ _ _)⟩)

end Go.Proofs.Ytmglnjmnabjjgaa
