/- Trees as texts, as plain lists of bytes: how a tree is written, and what reading a text comes to. -/
import Derived.Test.YtknkclbjocfhiaaDoorNFew
namespace Go.Proofs.YtknkclbjocfhiaaDoor
open Go.RowKit

/-- A text of bytes. -/
def mkB (l : List UInt8) : ByteArray := ⟨l.toArray⟩
set_option maxRecDepth 4000 in
theorem mkB_data (l : List UInt8) : (mkB l).data.toList = l := rfl
set_option maxRecDepth 4000 in
theorem mkB_size (l : List UInt8) : (mkB l).size = l.length := by unfold mkB; simp [ByteArray.size]
set_option maxRecDepth 4000 in
theorem data_size (s : ByteArray) : s.data.toList.length = s.size := by show _ = s.data.size; simp
set_option maxRecDepth 4000 in
theorem mkB_of (s : ByteArray) : mkB s.data.toList = s := rfl

/-- How properties are written: each behind the byte ahead of it. -/
def prT (a : UInt8) : List Pr → List UInt8
  | [] => []
  | p :: r => a :: (p.1.data.toList ++ 58 :: (p.2.data.toList ++ prT 44 r))
def propsT : List Pr → List UInt8
  | [] => []
  | p :: r => prT 123 (p :: r) ++ [125]
mutual
/-- How a tree is. -/
def txtT : NT → List UInt8
  | .mk lf ps tx ks => propsT ps ++ if lf then quoL tx else 91 :: (txtK ks ++ [93])
def txtK : List NT → List UInt8
  | [] => []
  | k :: r => txtT k ++ txtK r
end
set_option maxRecDepth 4000 in
theorem txtK_append (a b : List NT) : txtK (a ++ b) = txtK a ++ txtK b := by
  induction a with
  | nil => simp [txtK]
  | cons x r ih => simp only [List.cons_append, txtK, ih, List.append_assoc]

/-- What reading comes to: what is wrong, and where; or what was read, and up to where. -/
inductive Res (α : Type) where
  | bad (p : Nat) (e : Int)
  | ok (x : α) (j : Nat)

/-- Up to where all bytes are such. -/
def endL (f : UInt8 → Bool) (s : List UInt8) (i : Nat) : Nat := i + ((s.drop i).takeWhile f).length
def cutS (s : List UInt8) (i j : Nat) : List UInt8 := (s.take j).drop i
def prOf (s : List UInt8) (i : Nat) : Pr := (mkB (cutS s i (endL isLet s i)), mkB (cutS s (endL isLet s i + 1) (endL isVal s (endL isLet s i + 1))))
/-- One property, its key from i on, behind ps. -/
def propP (s : List UInt8) (ps : List Pr) (i : Nat) : Res Pr :=
  if endL isLet s i = i then .bad i 11
  else if s[endL isLet s i]? ≠ some 58 then .bad (endL isLet s i) 11
  else if chk (ps ++ [prOf s i]) ≠ 0 then .bad i (chk (ps ++ [prOf s i]))
  else .ok (prOf s i) (endL isVal s (endL isLet s i + 1))
/-- Properties, from the first key on. -/
def propsP (s : List UInt8) (ps : List Pr) (i : Nat) : Res (List Pr) :=
  match propP s ps i with
  | .bad p e => .bad p e
  | .ok p m => if s[m]? = some 125 then .ok (ps ++ [p]) (m + 1) else if _h : s[m]? = some 44 ∧ i ≤ m then propsP s (ps ++ [p]) (m + 1) else .bad m 11
termination_by s.length - i
decreasing_by have := (List.getElem?_eq_some_iff.1 _h.1).1; omega
/-- Up to where a quoted text goes. -/
def qEnd (s : List UInt8) (j : Nat) : Nat := min (endL (fun b => b != 34) s (j + 1) + 1) s.length
def unqS (s : List UInt8) (j : Nat) : List Int × Int × Int := unqL (cutS s j (qEnd s j))
/-- What stands behind the properties, if there are any. -/
def bodyP (s : List UInt8) (ps : List Pr) (j : Nat) : Res NT :=
  if s[j]? = some 91 then .ok (.mk false ps [] []) (j + 1)
  else if s[j]? = some 34 then if (unqS s j).2.2 ≠ 0 then .bad (j + (unqS s j).2.1.toNat) (unqS s j).2.2 else .ok (.mk true ps (unqS s j).1 []) (qEnd s j)
  else .bad j 11
def headP (s : List UInt8) (i : Nat) : Res (List Pr) := if s[i]? = some 123 then propsP s [] (i + 1) else .ok [] i
/-- A node's beginning: a leaf whole, an element up to where its Kids stand. -/
def beginP (s : List UInt8) (i : Nat) : Res NT :=
  match headP s i with
  | .bad p e => .bad p e
  | .ok ps j => bodyP s ps j
def addK (u k : NT) : NT := .mk u.lf u.ps u.tx (u.ks ++ [k])
mutual
/-- A node. -/
def nodeW (s : List UInt8) (i : Nat) : Res NT :=
  match beginP s i with
  | .bad p e => .bad p e
  | .ok n j => if n.lf then .ok n j else if _h : i < j ∧ j ≤ s.length then kidsW s n j else .bad 0 99
termination_by (s.length - i, 0)
decreasing_by all_goals first | exact Prod.Lex.right _ (by omega) | exact Prod.Lex.left _ _ (by omega)
/-- The Kids of u that are left, from j on, and its end. -/
def kidsW (s : List UInt8) (u : NT) (j : Nat) : Res NT :=
  if s[j]? = some 93 then .ok u (j + 1)
  else match nodeW s j with
    | .bad p e => .bad p e
    | .ok k j' => if _h : j < j' ∧ j' ≤ s.length then kidsW s (addK u k) j' else .bad 0 99
termination_by (s.length - j, 1)
decreasing_by all_goals first | exact Prod.Lex.right _ (by omega) | exact Prod.Lex.left _ _ (by omega)
end
def noT : NT := .mk false [] [] []
/-- A whole text: the tree, the place and the number of what is wrong. -/
def parseL (s : List UInt8) : NT × Nat × Int :=
  match nodeW s 0 with
  | .bad p e => (noT, p, e)
  | .ok n j => if j < s.length then (noT, j, 11) else (n, 0, 0)
/-- What comes of it when the open nodes, the innermost first, stand above what was read. -/
def wrapW (s : List UInt8) : List NT → Res NT → Res NT
  | [], r => r
  | _ :: _, .bad p e => .bad p e
  | u :: st, .ok n j => wrapW s st (kidsW s (addK u n) j)
set_option maxRecDepth 4000 in
theorem wrapW_bad (s : List UInt8) (st : List NT) (p : Nat) (e : Int) : wrapW s st (.bad p e) = .bad p e := by cases st <;> rfl

/-! What these do. -/

theorem at_drop (s : List UInt8) (i : Nat) : s[i]? = (s.drop i)[0]? := by simp
set_option maxRecDepth 4000 in
theorem drop_at {s : List UInt8} {i : Nat} {c : UInt8} (h : s[i]? = some c) : s.drop i = c :: s.drop (i + 1) := by
  obtain ⟨h1, h2⟩ := List.getElem?_eq_some_iff.1 h
  rw [List.drop_eq_getElem_cons h1, h2]
set_option maxRecDepth 4000 in
theorem at_lt {s : List UInt8} {i : Nat} {c : UInt8} (h : s[i]? = some c) : i < s.length := (List.getElem?_eq_some_iff.1 h).1
set_option maxRecDepth 4000 in
theorem endL_step {f : UInt8 → Bool} {s : List UInt8} {i : Nat} {c : UInt8} (h : s[i]? = some c) (hf : f c = true) : endL f s i = endL f s (i + 1) := by
  unfold endL; rw [drop_at h, List.takeWhile_cons, if_pos hf]; simp; omega
set_option maxRecDepth 4000 in
theorem endL_stop {f : UInt8 → Bool} {s : List UInt8} {i : Nat} (h : ∀ c, s[i]? = some c → f c = false) : endL f s i = i := by
  unfold endL
  cases hc : s[i]? with
  | none => rw [List.drop_eq_nil_of_le (List.getElem?_eq_none_iff.1 hc)]; rfl
  | some c => rw [drop_at hc, List.takeWhile_cons, if_neg (by simp [h c hc])]; rfl
set_option maxRecDepth 4000 in
theorem endL_ge (f : UInt8 → Bool) (s : List UInt8) (i : Nat) : i ≤ endL f s i := by unfold endL; omega
set_option maxRecDepth 4000 in
theorem takeWhile_len (f : UInt8 → Bool) (l : List UInt8) : (l.takeWhile f).length ≤ l.length := (List.takeWhile_prefix f).length_le
set_option maxRecDepth 4000 in
theorem endL_le {f : UInt8 → Bool} {s : List UInt8} {i : Nat} (h : i ≤ s.length) : endL f s i ≤ s.length := by
  unfold endL
  have := takeWhile_len f (s.drop i)
  rw [List.length_drop] at this
  omega
set_option maxRecDepth 4000 in
theorem cutS_len (s : List UInt8) (i j : Nat) (h : j ≤ s.length) : (cutS s i j).length = j - i := by unfold cutS; simp; omega
set_option maxRecDepth 4000 in
theorem cutS_self (s : List UInt8) (i : Nat) : cutS s i i = [] := by unfold cutS; rw [List.drop_eq_nil_of_le]; simp; omega
set_option maxRecDepth 4000 in
theorem cutS_of {s a rest : List UInt8} {i : Nat} (h : s.drop i = a ++ rest) : cutS s i (i + a.length) = a := by
  unfold cutS
  rw [List.drop_take, Nat.add_sub_cancel_left, h]
  exact List.take_left' rfl
set_option maxRecDepth 4000 in
theorem cutS_append (s : List UInt8) {i j k : Nat} (h1 : i ≤ j) (h2 : j ≤ k) : cutS s i k = cutS s i j ++ cutS s j k := by
  unfold cutS
  rw [List.drop_take, List.drop_take, List.drop_take]
  have e : k - i = (j - i) + (k - j) := by omega
  rw [e, List.take_add, List.drop_drop]
  congr 3
  omega
set_option maxRecDepth 4000 in
theorem cutS_one {s : List UInt8} {i : Nat} {c : UInt8} (h : s[i]? = some c) : cutS s i (i + 1) = [c] := by
  have := drop_at h
  exact cutS_of (a := [c]) (by rw [this]; rfl)
set_option maxRecDepth 4000 in
theorem drop_more {s a rest : List UInt8} {i : Nat} (h : s.drop i = a ++ rest) : s.drop (i + a.length) = rest := by
  rw [← List.drop_drop, h]; exact List.drop_left' rfl
set_option maxRecDepth 4000 in
theorem dropC {s rest : List UInt8} {i : Nat} {c : UInt8} (h : s.drop i = c :: rest) : s[i]? = some c ∧ s.drop (i + 1) = rest := by
  refine ⟨by rw [at_drop, h]; rfl, ?_⟩
  have := drop_more (a := [c]) (rest := rest) (by rw [h]; rfl)
  exact this
set_option maxRecDepth 4000 in
theorem drop_nil {s : List UInt8} {i : Nat} (h : s.drop i = []) : s[i]? = none := by
  rw [List.getElem?_eq_none_iff]; exact List.drop_eq_nil_iff.1 h
set_option maxRecDepth 4000 in
theorem takeWhile_all {f : UInt8 → Bool} {a rest : List UInt8} (h : a.all f = true) (h2 : ∀ c, rest[0]? = some c → f c = false) : (a ++ rest).takeWhile f = a := by
  induction a with
  | nil =>
    cases rest with
    | nil => rfl
    | cons x l => simp [h2 x rfl]
  | cons x l ih =>
    simp only [List.all_cons, Bool.and_eq_true] at h
    rw [List.cons_append, List.takeWhile_cons, if_pos h.1, ih h.2]
set_option maxRecDepth 4000 in
/-- The run that stands there. -/
theorem endL_run {f : UInt8 → Bool} {s a rest : List UInt8} {i : Nat} (h : s.drop i = a ++ rest) (ha : a.all f = true) (hr : ∀ c, rest[0]? = some c → f c = false) : endL f s i = i + a.length := by
  unfold endL; rw [h, takeWhile_all ha hr]
set_option maxRecDepth 4000 in
theorem all_takeWhile' (f : UInt8 → Bool) (l : List UInt8) : (l.takeWhile f).all f = true := List.all_takeWhile
set_option maxRecDepth 4000 in
theorem takeWhile_next {f : UInt8 → Bool} {l : List UInt8} {c : UInt8} (h : l[(l.takeWhile f).length]? = some c) : f c = false := by
  induction l with
  | nil => simp at h
  | cons x r ih =>
    by_cases hx : f x = true
    · rw [List.takeWhile_cons, if_pos hx] at h; exact ih (by simpa using h)
    · rw [List.takeWhile_cons, if_neg hx] at h
      simp at h
      rw [← h]; simpa using hx
set_option maxRecDepth 4000 in
theorem endL_next {f : UInt8 → Bool} {s : List UInt8} {i : Nat} {c : UInt8} (h : s[endL f s i]? = some c) : f c = false := by
  unfold endL at h
  rw [← List.getElem?_drop] at h
  exact takeWhile_next h
set_option maxRecDepth 4000 in
theorem endL_cut (f : UInt8 → Bool) (s : List UInt8) (i : Nat) : cutS s i (endL f s i) = (s.drop i).takeWhile f := by
  unfold endL
  obtain ⟨t, ht⟩ := List.takeWhile_prefix (l := s.drop i) f
  exact cutS_of (rest := t) ht.symm
set_option maxRecDepth 4000 in
theorem endL_all (f : UInt8 → Bool) (s : List UInt8) (i : Nat) : (cutS s i (endL f s i)).all f = true := by
  rw [endL_cut]; exact all_takeWhile' f _

end Go.Proofs.YtknkclbjocfhiaaDoor
