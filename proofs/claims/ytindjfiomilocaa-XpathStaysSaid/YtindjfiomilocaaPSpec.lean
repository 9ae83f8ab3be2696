/- The plain answers of layer 1, as functions on lists of pairs of texts: no program is named here. -/
import Derived.Laws.Strings
namespace Go.Proofs.Ytindjfiomilocaa

abbrev Pr := ByteArray × ByteArray
def noPr : Pr := (ByteArray.empty, ByteArray.empty)
def isLet (c : UInt8) : Bool := decide (97 ≤ (c.toNat : Int)) && decide ((c.toNat : Int) ≤ 122)
def isDig (c : UInt8) : Bool := decide (48 ≤ (c.toNat : Int)) && decide ((c.toNat : Int) ≤ 57)
def isVal (c : UInt8) : Bool := isLet c || isDig c || ((c.toNat : Int) == 45)
def keyB (s : ByteArray) : Bool := decide (1 ≤ s.size) && decide (s.size ≤ 16) && s.data.toList.all isLet
def valB (s : ByteArray) : Bool := decide (s.size ≤ 32) && s.data.toList.all isVal
def leB (a b : ByteArray) : Bool := Op.bytesLess a.toList b.toList || a.toList == b.toList

def prAt (l : List Pr) (k : Nat) : Pr := l.getD k noPr
def stepE (l : List Pr) (k : Nat) : Int :=
  if (keyB (prAt l k).1 && valB (prAt l k).2) = false then 3 else if (decide (0 < k) && leB (prAt l k).1 (prAt l (k - 1)).1) = true then 1 else 0
def firstE (l : List Pr) : Int := (((List.range l.length).map (stepE l)).find? (· != 0)).getD 0
def chk (l : List Pr) : Int := if 16 < l.length then 2 else firstE l

set_option maxRecDepth 4000 in
theorem firstE_none (l : List Pr) (h : ∀ j, j < l.length → stepE l j = 0) : firstE l = 0 := by
  unfold firstE
  rw [List.find?_eq_none.2]
  · rfl
  · intro x hx
    obtain ⟨j, hj, rfl⟩ := List.mem_map.1 hx
    simp [h j (List.mem_range.1 hj)]

set_option maxRecDepth 4000 in
theorem find_first {α : Type} (f : Nat → α) (p : α → Bool) : ∀ (n k : Nat), k < n → (∀ j, j < k → p (f j) = false) → p (f k) = true → ((List.range n).map f).find? p = some (f k) := by
  intro n
  induction n with
  | zero => intro k h; omega
  | succ n ih =>
    intro k hk h0 h1
    rw [List.range_succ, List.map_append, List.find?_append]
    by_cases e : k < n
    · rw [ih k e h0 h1]; rfl
    · have : k = n := by omega
      subst this
      rw [List.find?_eq_none.2]
      · simp [h1]
      · intro x hx
        obtain ⟨j, hj, rfl⟩ := List.mem_map.1 hx
        simp [h0 j (List.mem_range.1 hj)]

set_option maxRecDepth 4000 in
theorem firstE_at (l : List Pr) (k : Nat) (hk : k < l.length) (h0 : ∀ j, j < k → stepE l j = 0) (h : stepE l k ≠ 0) : firstE l = stepE l k := by
  unfold firstE
  rw [find_first (stepE l) (· != 0) l.length k hk (fun j hj => by simp [h0 j hj]) (by simpa using h)]
  rfl

def getF (l : List Pr) (k : ByteArray) : Option Pr := l.find? (fun p => p.1.toList == k.toList)
def getV (l : List Pr) (k : ByteArray) : ByteArray := ((getF l k).getD noPr).2
def getB (l : List Pr) (k : ByteArray) : Bool := (getF l k).isSome

end Go.Proofs.Ytindjfiomilocaa
