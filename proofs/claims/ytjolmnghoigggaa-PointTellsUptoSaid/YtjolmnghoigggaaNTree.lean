/- Trees as plain data: what each call answers. -/
import Derived.Test.YtjolmnghoigggaaPBase
import Derived.Test.YtjolmnghoigggaaGRead
namespace Go.Proofs.Ytjolmnghoigggaa
open Go.RowKit

/-- A tree: leaf or not, properties, text, Kids. -/
inductive NT where
  | mk (lf : Bool) (ps : List Pr) (tx : List Int) (ks : List NT)

def NT.lf : NT → Bool
  | .mk a _ _ _ => a
def NT.ps : NT → List Pr
  | .mk _ a _ _ => a
def NT.tx : NT → List Int
  | .mk _ _ a _ => a
def NT.ks : NT → List NT
  | .mk _ _ _ a => a
set_option maxRecDepth 4000 in
theorem NT.eta (n : NT) : NT.mk n.lf n.ps n.tx n.ks = n := by cases n; rfl

mutual
/-- How great. -/
def sizeT : NT → Nat
  | .mk _ _ tx ks => 1 + tx.length + sizeK ks
def sizeK : List NT → Nat
  | [] => 0
  | k :: r => sizeT k + sizeK r
end
mutual
/-- What it says. -/
def textT : NT → List Int
  | .mk _ _ tx ks => tx ++ textK ks
def textK : List NT → List Int
  | [] => []
  | k :: r => textT k ++ textK r
end
/-- What is wrong with one node; with a tree, but for its size. -/
def oneE (lf : Bool) (ps : List Pr) (tx : List Int) (nk : Nat) : Int :=
  if chk ps ≠ 0 then chk ps else if (lf && decide (0 < nk) || !lf && decide (0 < tx.length)) = true then 7 else chkL tx
mutual
def chkT : NT → Int
  | .mk lf ps tx ks => if oneE lf ps tx ks.length ≠ 0 then oneE lf ps tx ks.length else chkK ks
def chkK : List NT → Int
  | [] => 0
  | k :: r => if chkT k ≠ 0 then chkT k else chkK r
end
/-- What is wrong with a tree: the size is told as an int tells it. -/
def checkT (n : NT) : Int := if 1048576 < wrap64 (sizeT n) then 2 else chkT n
/-- A tree's type. -/
def tyKey : ByteArray := { data := #[116, 121, 112, 101] }
def typeT (lf : Bool) (ps : List Pr) : ByteArray := if lf then ByteArray.empty else getV ps tyKey
/-- Are two trees the same? -/
noncomputable def eqT (a b : NT) : Bool := @decide (a = b) (Classical.propDecidable _)
set_option maxRecDepth 4000 in
theorem eqT_self (a : NT) : eqT a a = true := by unfold eqT; exact @decide_eq_true _ (Classical.propDecidable _) rfl
set_option maxRecDepth 4000 in
theorem eqT_yes {a b : NT} (h : a = b) : eqT a b = true := by subst h; exact eqT_self a
set_option maxRecDepth 4000 in
theorem eqT_no {a b : NT} (h : a ≠ b) : eqT a b = false := by unfold eqT; exact @decide_eq_false _ (Classical.propDecidable _) h
set_option maxRecDepth 4000 in
theorem eqT_comm (a b : NT) : eqT a b = eqT b a := by
  rcases Classical.em (a = b) with h | h
  · rw [eqT_yes h, eqT_yes h.symm]
  · rw [eqT_no h, eqT_no (fun e => h e.symm)]

set_option maxRecDepth 4000 in
theorem sizeK_append (a b : List NT) : sizeK (a ++ b) = sizeK a + sizeK b := by
  induction a with
  | nil => simp [sizeK]
  | cons x r ih => simp only [List.cons_append, sizeK, ih]; omega
set_option maxRecDepth 4000 in
theorem textK_append (a b : List NT) : textK (a ++ b) = textK a ++ textK b := by
  induction a with
  | nil => simp [textK]
  | cons x r ih => simp only [List.cons_append, textK, ih, List.append_assoc]
set_option maxRecDepth 4000 in
theorem take_one {α : Type} {l : List α} {k : Nat} {x : α} (h : l[k]? = some x) : l.take (k + 1) = l.take k ++ [x] := by
  rw [List.take_add_one, h]; rfl
set_option maxRecDepth 4000 in
theorem drop_one {α : Type} {l : List α} {k : Nat} {x : α} (h : l[k]? = some x) : l.drop k = x :: l.drop (k + 1) := by
  obtain ⟨h1, h2⟩ := List.getElem?_eq_some_iff.1 h
  rw [List.drop_eq_getElem_cons h1, h2]
set_option maxRecDepth 4000 in
theorem sizeK_take {ks : List NT} {k : Nat} {n : NT} (h : ks[k]? = some n) : sizeK (ks.take (k + 1)) = sizeK (ks.take k) + sizeT n := by
  rw [take_one h, sizeK_append]; simp [sizeK]
set_option maxRecDepth 4000 in
theorem textK_take {ks : List NT} {k : Nat} {n : NT} (h : ks[k]? = some n) : textK (ks.take (k + 1)) = textK (ks.take k) ++ textT n := by
  rw [take_one h, textK_append]; simp [textK]
set_option maxRecDepth 4000 in
mutual
theorem textT_le : ∀ n : NT, (textT n).length ≤ sizeT n
  | .mk _ _ tx ks => by have := textK_le ks; simp only [textT, sizeT, List.length_append]; omega
theorem textK_le : ∀ l : List NT, (textK l).length ≤ sizeK l
  | [] => by simp [textK]
  | k :: r => by have h1 := textT_le k; have h2 := textK_le r; simp only [textK, sizeK, List.length_append]; omega
end
set_option maxRecDepth 4000 in
theorem sizeT_pos (n : NT) : 1 ≤ sizeT n := by cases n; simp only [sizeT]; omega
set_option maxRecDepth 4000 in
theorem sizeK_mem {ks : List NT} {k : Nat} {n : NT} (h : ks[k]? = some n) : sizeT n ≤ sizeK ks := by
  have h1 := sizeK_take h
  have h2 : sizeK ks = sizeK (ks.take (k + 1)) + sizeK (ks.drop (k + 1)) := by rw [← sizeK_append, List.take_append_drop]
  omega

set_option maxRecDepth 4000 in
theorem chkK_step {ks : List NT} {k : Nat} {n : NT} (h : ks[k]? = some n) (h0 : chkT n = 0) : chkK (ks.drop k) = chkK (ks.drop (k + 1)) := by
  rw [drop_one h, chkK, if_neg (by simp [h0])]
set_option maxRecDepth 4000 in
theorem chkK_stop {ks : List NT} {k : Nat} {n : NT} (h : ks[k]? = some n) (h0 : chkT n ≠ 0) : chkK (ks.drop k) = chkT n := by
  rw [drop_one h, chkK, if_pos h0]
set_option maxRecDepth 4000 in
theorem chkK_end {ks : List NT} {k : Nat} (h : ks.length ≤ k) : chkK (ks.drop k) = 0 := by
  rw [List.drop_eq_nil_of_le h]; rfl

section
variable {σ : Type} (step : σ → NT → Bool × σ)
mutual
/-- A walk through a tree, each node ahead of its Kids, till a visit says that it is enough. -/
def walkT : σ → NT → Bool × σ
  | s, .mk lf ps tx ks => if (step s (.mk lf ps tx ks)).1 = true then walkK (step s (.mk lf ps tx ks)).2 ks else (false, (step s (.mk lf ps tx ks)).2)
def walkK : σ → List NT → Bool × σ
  | s, [] => (true, s)
  | s, k :: r => if (walkT s k).1 = true then walkK (walkT s k).2 r else (false, (walkT s k).2)
end
variable {step}
set_option maxRecDepth 4000 in
theorem walkK_step {s : σ} {ks : List NT} {k : Nat} {n : NT} (h : ks[k]? = some n) (h0 : (walkT step s n).1 = true) : walkK step s (ks.drop k) = walkK step (walkT step s n).2 (ks.drop (k + 1)) := by
  rw [drop_one h, walkK, if_pos h0]
set_option maxRecDepth 4000 in
theorem walkK_stop {s : σ} {ks : List NT} {k : Nat} {n : NT} (h : ks[k]? = some n) (h0 : (walkT step s n).1 = false) : walkK step s (ks.drop k) = (false, (walkT step s n).2) := by
  rw [drop_one h, walkK, if_neg (by simp [h0])]
set_option maxRecDepth 4000 in
theorem walkK_end {s : σ} {ks : List NT} {k : Nat} (h : ks.length ≤ k) : walkK step s (ks.drop k) = (true, s) := by
  rw [List.drop_eq_nil_of_le h]; rfl
end

/-- The three visits. -/
def stepS (z : Int) (n : NT) : Bool × Int := (true, wrap64 (z + (1 + n.tx.length)))
def stepX (l : List Int) (n : NT) : Bool × List Int := (true, l ++ n.tx)
def stepC (_ : Int) (n : NT) : Bool × Int := (oneE n.lf n.ps n.tx n.ks.length == 0, oneE n.lf n.ps n.tx n.ks.length)

set_option maxRecDepth 4000 in
theorem wrap_add (a b : Int) : wrap64 (wrap64 a + b) = wrap64 (a + b) := by unfold wrap64; omega
set_option maxRecDepth 4000 in
theorem wrap_add' (a b : Int) : wrap64 (a + wrap64 b) = wrap64 (a + b) := by unfold wrap64; omega
set_option maxRecDepth 4000 in
theorem wrap_id (a : Int) (h : -9223372036854775808 ≤ a) (h' : a ≤ 9223372036854775807) : wrap64 a = a := by unfold wrap64; omega
set_option maxRecDepth 4000 in
mutual
theorem walk_size : ∀ (n : NT) (z : Int), walkT stepS (wrap64 z) n = (true, wrap64 (z + sizeT n))
  | .mk lf ps tx ks, z => by
    rw [walkT]
    simp only [stepS, NT.tx, if_true]
    rw [wrap_add, walkK_size ks]
    simp only [sizeT]
    congr 2
    omega
theorem walkK_size : ∀ (l : List NT) (z : Int), walkK stepS (wrap64 z) l = (true, wrap64 (z + sizeK l))
  | [], z => by simp [walkK, sizeK]
  | k :: r, z => by
    rw [walkK, walk_size k z]
    simp only [if_true]
    rw [walkK_size r]
    simp only [sizeK]
    congr 2
    omega
end
set_option maxRecDepth 4000 in
mutual
theorem walk_text : ∀ (n : NT) (l : List Int), walkT stepX l n = (true, l ++ textT n)
  | .mk lf ps tx ks, l => by
    rw [walkT]
    simp only [stepX, NT.tx, if_true]
    rw [walkK_text ks]
    simp only [textT, List.append_assoc]
theorem walkK_text : ∀ (ks : List NT) (l : List Int), walkK stepX l ks = (true, l ++ textK ks)
  | [], l => by simp [walkK, textK]
  | k :: r, l => by
    rw [walkK, walk_text k l]
    simp only [if_true]
    rw [walkK_text r]
    simp only [textK, List.append_assoc]
end
set_option maxRecDepth 4000 in
mutual
theorem walk_check : ∀ (n : NT) (e : Int), walkT stepC e n = (chkT n == 0, chkT n)
  | .mk lf ps tx ks, e => by
    rw [walkT, chkT]
    simp only [stepC, NT.lf, NT.ps, NT.tx, NT.ks]
    rcases Classical.em (oneE lf ps tx ks.length = 0) with h | h
    · simp only [h, beq_self_eq_true, if_true, ne_eq, not_true, if_false]
      exact walkK_check ks
    · have h2 : (oneE lf ps tx ks.length == 0) = false := by simp [h]
      simp only [h2, ne_eq, h, not_false_iff, if_true, if_false, Bool.false_eq_true]
theorem walkK_check : ∀ (ks : List NT), walkK stepC 0 ks = (chkK ks == 0, chkK ks)
  | [] => by simp [walkK, chkK]
  | k :: r => by
    rw [walkK, walk_check k 0, chkK]
    rcases Classical.em (chkT k = 0) with h | h
    · simp only [h, beq_self_eq_true, if_true, ne_eq, not_true, if_false]
      exact walkK_check r
    · have h2 : (chkT k == 0) = false := by simp [h]
      simp only [h2, ne_eq, h, not_false_iff, if_true, if_false, Bool.false_eq_true]
end

end Go.Proofs.Ytjolmnghoigggaa
