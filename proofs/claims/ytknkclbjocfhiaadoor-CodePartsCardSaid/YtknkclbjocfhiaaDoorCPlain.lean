/- Trees as texts, as plain lists of bytes: how a tree is written, and what reading a text comes to. What is written is read, what is read was written so: over plain lists. What is read was written so; a text cut short, or with more behind it; how much a tree's text says: over plain lists. -/
import Derived.Test.YtknkclbjocfhiaaDoorNLefts
namespace Go.Proofs.YtknkclbjocfhiaaDoor
open Go.RowKit

/-- A text of bytes. -/
def mkB (l : List UInt8) : ByteArray := ⟨l.toArray⟩
set_option maxRecDepth 4000 in
theorem mkB_data (l : List UInt8) : (mkB l).data.toList = l := rfl
set_option maxRecDepth 4000 in
theorem mkB_size (l : List UInt8) : (mkB l).size = l.length := by unfold mkB; simp [ByteArray.size]
set_option maxRecDepth 4000 in
theorem data_size (s : ByteArray) : s.data.toList.length = s.size := by show _ = s.data.size; simp
set_option maxRecDepth 4000 in
theorem mkB_of (s : ByteArray) : mkB s.data.toList = s := rfl

/-- How properties are written: each behind the byte ahead of it. -/
def prT (a : UInt8) : List Pr → List UInt8
  | [] => []
  | p :: r => a :: (p.1.data.toList ++ 58 :: (p.2.data.toList ++ prT 44 r))
def propsT : List Pr → List UInt8
  | [] => []
  | p :: r => prT 123 (p :: r) ++ [125]
mutual
/-- How a tree is. -/
def txtT : NT → List UInt8
  | .mk lf ps tx ks => propsT ps ++ if lf then quoL tx else 91 :: (txtK ks ++ [93])
def txtK : List NT → List UInt8
  | [] => []
  | k :: r => txtT k ++ txtK r
end
set_option maxRecDepth 4000 in
theorem txtK_append (a b : List NT) : txtK (a ++ b) = txtK a ++ txtK b := by
  induction a with
  | nil => simp [txtK]
  | cons x r ih => simp only [List.cons_append, txtK, ih, List.append_assoc]

/-- What reading comes to: what is wrong, and where; or what was read, and up to where. -/
inductive Res (α : Type) where
  | bad (p : Nat) (e : Int)
  | ok (x : α) (j : Nat)

/-- Up to where all bytes are such. -/
def endL (f : UInt8 → Bool) (s : List UInt8) (i : Nat) : Nat := i + ((s.drop i).takeWhile f).length
def cutS (s : List UInt8) (i j : Nat) : List UInt8 := (s.take j).drop i
def prOf (s : List UInt8) (i : Nat) : Pr := (mkB (cutS s i (endL isLet s i)), mkB (cutS s (endL isLet s i + 1) (endL isVal s (endL isLet s i + 1))))
/-- One property, its key from i on, behind ps. -/
def propP (s : List UInt8) (ps : List Pr) (i : Nat) : Res Pr :=
  if endL isLet s i = i then .bad i 11
  else if s[endL isLet s i]? ≠ some 58 then .bad (endL isLet s i) 11
  else if chk (ps ++ [prOf s i]) ≠ 0 then .bad i (chk (ps ++ [prOf s i]))
  else .ok (prOf s i) (endL isVal s (endL isLet s i + 1))
/-- Properties, from the first key on. -/
def propsP (s : List UInt8) (ps : List Pr) (i : Nat) : Res (List Pr) :=
  match propP s ps i with
  | .bad p e => .bad p e
  | .ok p m => if s[m]? = some 125 then .ok (ps ++ [p]) (m + 1) else if _h : s[m]? = some 44 ∧ i ≤ m then propsP s (ps ++ [p]) (m + 1) else .bad m 11
termination_by s.length - i
decreasing_by have := (List.getElem?_eq_some_iff.1 _h.1).1; omega
/-- Up to where a quoted text goes. -/
def qEnd (s : List UInt8) (j : Nat) : Nat := min (endL (fun b => b != 34) s (j + 1) + 1) s.length
def unqS (s : List UInt8) (j : Nat) : List Int × Int × Int := unqL (cutS s j (qEnd s j))
/-- What stands behind the properties, if there are any. -/
def bodyP (s : List UInt8) (ps : List Pr) (j : Nat) : Res NT :=
  if s[j]? = some 91 then .ok (.mk false ps [] []) (j + 1)
  else if s[j]? = some 34 then if (unqS s j).2.2 ≠ 0 then .bad (j + (unqS s j).2.1.toNat) (unqS s j).2.2 else .ok (.mk true ps (unqS s j).1 []) (qEnd s j)
  else .bad j 11
def headP (s : List UInt8) (i : Nat) : Res (List Pr) := if s[i]? = some 123 then propsP s [] (i + 1) else .ok [] i
/-- A node's beginning: a leaf whole, an element up to where its Kids stand. -/
def beginP (s : List UInt8) (i : Nat) : Res NT :=
  match headP s i with
  | .bad p e => .bad p e
  | .ok ps j => bodyP s ps j
def addK (u k : NT) : NT := .mk u.lf u.ps u.tx (u.ks ++ [k])
mutual
/-- A node. -/
def nodeW (s : List UInt8) (i : Nat) : Res NT :=
  match beginP s i with
  | .bad p e => .bad p e
  | .ok n j => if n.lf then .ok n j else if _h : i < j ∧ j ≤ s.length then kidsW s n j else .bad 0 99
termination_by (s.length - i, 0)
decreasing_by all_goals first | exact Prod.Lex.right _ (by omega) | exact Prod.Lex.left _ _ (by omega)
/-- The Kids of u that are left, from j on, and its end. -/
def kidsW (s : List UInt8) (u : NT) (j : Nat) : Res NT :=
  if s[j]? = some 93 then .ok u (j + 1)
  else match nodeW s j with
    | .bad p e => .bad p e
    | .ok k j' => if _h : j < j' ∧ j' ≤ s.length then kidsW s (addK u k) j' else .bad 0 99
termination_by (s.length - j, 1)
decreasing_by all_goals first | exact Prod.Lex.right _ (by omega) | exact Prod.Lex.left _ _ (by omega)
end
def noT : NT := .mk false [] [] []
/-- A whole text: the tree, the place and the number of what is wrong. -/
def parseL (s : List UInt8) : NT × Nat × Int :=
  match nodeW s 0 with
  | .bad p e => (noT, p, e)
  | .ok n j => if j < s.length then (noT, j, 11) else (n, 0, 0)
/-- What comes of it when the open nodes, the innermost first, stand above what was read. -/
def wrapW (s : List UInt8) : List NT → Res NT → Res NT
  | [], r => r
  | _ :: _, .bad p e => .bad p e
  | u :: st, .ok n j => wrapW s st (kidsW s (addK u n) j)
set_option maxRecDepth 4000 in
theorem wrapW_bad (s : List UInt8) (st : List NT) (p : Nat) (e : Int) : wrapW s st (.bad p e) = .bad p e := by cases st <;> rfl

/-! What these do. -/

theorem at_drop (s : List UInt8) (i : Nat) : s[i]? = (s.drop i)[0]? := by simp
set_option maxRecDepth 4000 in
theorem drop_at {s : List UInt8} {i : Nat} {c : UInt8} (h : s[i]? = some c) : s.drop i = c :: s.drop (i + 1) := by
  obtain ⟨h1, h2⟩ := List.getElem?_eq_some_iff.1 h
  rw [List.drop_eq_getElem_cons h1, h2]
set_option maxRecDepth 4000 in
theorem at_lt {s : List UInt8} {i : Nat} {c : UInt8} (h : s[i]? = some c) : i < s.length := (List.getElem?_eq_some_iff.1 h).1
set_option maxRecDepth 4000 in
theorem endL_step {f : UInt8 → Bool} {s : List UInt8} {i : Nat} {c : UInt8} (h : s[i]? = some c) (hf : f c = true) : endL f s i = endL f s (i + 1) := by
  unfold endL; rw [drop_at h, List.takeWhile_cons, if_pos hf]; simp; omega
set_option maxRecDepth 4000 in
theorem endL_stop {f : UInt8 → Bool} {s : List UInt8} {i : Nat} (h : ∀ c, s[i]? = some c → f c = false) : endL f s i = i := by
  unfold endL
  cases hc : s[i]? with
  | none => rw [List.drop_eq_nil_of_le (List.getElem?_eq_none_iff.1 hc)]; rfl
  | some c => rw [drop_at hc, List.takeWhile_cons, if_neg (by simp [h c hc])]; rfl
set_option maxRecDepth 4000 in
theorem endL_ge (f : UInt8 → Bool) (s : List UInt8) (i : Nat) : i ≤ endL f s i := by unfold endL; omega
set_option maxRecDepth 4000 in
theorem takeWhile_len (f : UInt8 → Bool) (l : List UInt8) : (l.takeWhile f).length ≤ l.length := (List.takeWhile_prefix f).length_le
set_option maxRecDepth 4000 in
theorem endL_le {f : UInt8 → Bool} {s : List UInt8} {i : Nat} (h : i ≤ s.length) : endL f s i ≤ s.length := by
  unfold endL
  have := takeWhile_len f (s.drop i)
  rw [List.length_drop] at this
  omega
set_option maxRecDepth 4000 in
theorem cutS_len (s : List UInt8) (i j : Nat) (h : j ≤ s.length) : (cutS s i j).length = j - i := by unfold cutS; simp; omega
set_option maxRecDepth 4000 in
theorem cutS_self (s : List UInt8) (i : Nat) : cutS s i i = [] := by unfold cutS; rw [List.drop_eq_nil_of_le]; simp; omega
set_option maxRecDepth 4000 in
theorem cutS_of {s a rest : List UInt8} {i : Nat} (h : s.drop i = a ++ rest) : cutS s i (i + a.length) = a := by
  unfold cutS
  rw [List.drop_take, Nat.add_sub_cancel_left, h]
  exact List.take_left' rfl
set_option maxRecDepth 4000 in
theorem cutS_append (s : List UInt8) {i j k : Nat} (h1 : i ≤ j) (h2 : j ≤ k) : cutS s i k = cutS s i j ++ cutS s j k := by
  unfold cutS
  rw [List.drop_take, List.drop_take, List.drop_take]
  have e : k - i = (j - i) + (k - j) := by omega
  rw [e, List.take_add, List.drop_drop]
  congr 3
  omega
set_option maxRecDepth 4000 in
theorem cutS_one {s : List UInt8} {i : Nat} {c : UInt8} (h : s[i]? = some c) : cutS s i (i + 1) = [c] := by
  have := drop_at h
  exact cutS_of (a := [c]) (by rw [this]; rfl)
set_option maxRecDepth 4000 in
theorem drop_more {s a rest : List UInt8} {i : Nat} (h : s.drop i = a ++ rest) : s.drop (i + a.length) = rest := by
  rw [← List.drop_drop, h]; exact List.drop_left' rfl
set_option maxRecDepth 4000 in
theorem dropC {s rest : List UInt8} {i : Nat} {c : UInt8} (h : s.drop i = c :: rest) : s[i]? = some c ∧ s.drop (i + 1) = rest := by
  refine ⟨by rw [at_drop, h]; rfl, ?_⟩
  have := drop_more (a := [c]) (rest := rest) (by rw [h]; rfl)
  exact this
set_option maxRecDepth 4000 in
theorem drop_nil {s : List UInt8} {i : Nat} (h : s.drop i = []) : s[i]? = none := by
  rw [List.getElem?_eq_none_iff]; exact List.drop_eq_nil_iff.1 h
set_option maxRecDepth 4000 in
theorem takeWhile_all {f : UInt8 → Bool} {a rest : List UInt8} (h : a.all f = true) (h2 : ∀ c, rest[0]? = some c → f c = false) : (a ++ rest).takeWhile f = a := by
  induction a with
  | nil =>
    cases rest with
    | nil => rfl
    | cons x l => simp [h2 x rfl]
  | cons x l ih =>
    simp only [List.all_cons, Bool.and_eq_true] at h
    rw [List.cons_append, List.takeWhile_cons, if_pos h.1, ih h.2]
set_option maxRecDepth 4000 in
/-- The run that stands there. -/
theorem endL_run {f : UInt8 → Bool} {s a rest : List UInt8} {i : Nat} (h : s.drop i = a ++ rest) (ha : a.all f = true) (hr : ∀ c, rest[0]? = some c → f c = false) : endL f s i = i + a.length := by
  unfold endL; rw [h, takeWhile_all ha hr]
set_option maxRecDepth 4000 in
theorem all_takeWhile' (f : UInt8 → Bool) (l : List UInt8) : (l.takeWhile f).all f = true := List.all_takeWhile
set_option maxRecDepth 4000 in
theorem takeWhile_next {f : UInt8 → Bool} {l : List UInt8} {c : UInt8} (h : l[(l.takeWhile f).length]? = some c) : f c = false := by
  induction l with
  | nil => simp at h
  | cons x r ih =>
    by_cases hx : f x = true
    · rw [List.takeWhile_cons, if_pos hx] at h; exact ih (by simpa using h)
    · rw [List.takeWhile_cons, if_neg hx] at h
      simp at h
      rw [← h]; simpa using hx
set_option maxRecDepth 4000 in
theorem endL_next {f : UInt8 → Bool} {s : List UInt8} {i : Nat} {c : UInt8} (h : s[endL f s i]? = some c) : f c = false := by
  unfold endL at h
  rw [← List.getElem?_drop] at h
  exact takeWhile_next h
set_option maxRecDepth 4000 in
theorem endL_cut (f : UInt8 → Bool) (s : List UInt8) (i : Nat) : cutS s i (endL f s i) = (s.drop i).takeWhile f := by
  unfold endL
  obtain ⟨t, ht⟩ := List.takeWhile_prefix (l := s.drop i) f
  exact cutS_of (rest := t) ht.symm
set_option maxRecDepth 4000 in
theorem endL_all (f : UInt8 → Bool) (s : List UInt8) (i : Nat) : (cutS s i (endL f s i)).all f = true := by
  rw [endL_cut]; exact all_takeWhile' f _

end Go.Proofs.YtknkclbjocfhiaaDoor

namespace Go.Proofs.YtknkclbjocfhiaaDoor
open Go.RowKit

/-! How far reading goes. -/

theorem chk_prefix {a b : List Pr} (h : chk (a ++ b) = 0) : chk a = 0 := by
  unfold chk at h ⊢
  split at h
  · cases h
  · rename_i h1
    rw [List.length_append] at h1
    rw [if_neg (by omega)]
    refine firstE_none a fun j hj => ?_
    have h2 := firstE_zero h j (by rw [List.length_append]; omega)
    unfold stepE at h2 ⊢
    have e1 : prAt (a ++ b) j = prAt a j := by unfold prAt; simp [List.getD, List.getElem?_append_left hj]
    have e2 : prAt (a ++ b) (j - 1) = prAt a (j - 1) := by unfold prAt; simp [List.getD, List.getElem?_append_left (show j - 1 < a.length by omega)]
    rw [e1, e2] at h2
    exact h2
set_option maxRecDepth 4000 in
theorem chk_len {a : List Pr} (h : chk a = 0) : a.length ≤ 16 := by
  unfold chk at h; split at h
  · cases h
  · omega
set_option maxRecDepth 4000 in
theorem keyB_parts {k : ByteArray} (h : keyB k = true) : 1 ≤ k.size ∧ k.size ≤ 16 ∧ k.data.toList.all isLet = true := by
  unfold keyB at h; simp only [Bool.and_eq_true, decide_eq_true_iff] at h; exact ⟨h.1.1, h.1.2, h.2⟩
set_option maxRecDepth 4000 in
theorem valB_parts {k : ByteArray} (h : valB k = true) : k.size ≤ 32 ∧ k.data.toList.all isVal = true := by
  unfold valB at h; simp only [Bool.and_eq_true, decide_eq_true_iff] at h; exact h
set_option maxRecDepth 4000 in
theorem chk_last {a : List Pr} {p : Pr} (h : chk (a ++ [p]) = 0) : keyB p.1 = true ∧ valB p.2 = true := by
  unfold chk at h
  split at h
  · cases h
  · have h2 := firstE_zero h a.length (by simp)
    unfold stepE at h2
    have e1 : prAt (a ++ [p]) a.length = p := by unfold prAt; simp [List.getD]
    rw [e1] at h2
    split at h2
    · cases h2
    · rename_i h3
      cases ha : keyB p.1 <;> cases hb : valB p.2 <;> simp [ha, hb] at h3 ⊢

set_option maxRecDepth 4000 in
theorem propP_ok {s : List UInt8} {ps : List Pr} {i : Nat} {p : Pr} {m : Nat} (h : propP s ps i = .ok p m) : i < endL isLet s i ∧ s[endL isLet s i]? = some 58 ∧ m = endL isVal s (endL isLet s i + 1) ∧ p = prOf s i ∧ chk (ps ++ [p]) = 0 ∧ i + 1 < m ∧ m ≤ s.length := by
  unfold propP at h
  split at h
  · cases h
  · rename_i h1
    split at h
    · cases h
    · rename_i h2
      split at h
      · cases h
      · rename_i h3
        injection h with h4 h5
        subst h4 h5
        have e1 := endL_ge isLet s i
        have e2 := endL_ge isVal s (endL isLet s i + 1)
        have h2' : s[endL isLet s i]? = some 58 := by simpa using h2
        have e3 := at_lt h2'
        exact ⟨by omega, h2', rfl, rfl, by simpa using h3, by omega, endL_le (by omega)⟩
set_option maxRecDepth 4000 in
theorem propP_bad {s : List UInt8} {ps : List Pr} {i : Nat} {p : Nat} {e : Int} (hi : i ≤ s.length) (h : propP s ps i = .bad p e) : p ≤ s.length ∧ e ≠ 0 := by
  unfold propP at h
  split at h
  · injection h with h1 h2; subst h1 h2; exact ⟨hi, by decide⟩
  · split at h
    · injection h with h1 h2; subst h1 h2; exact ⟨endL_le hi, by decide⟩
    · split at h
      · rename_i h3
        injection h with h1 h2; subst h1 h2; exact ⟨hi, h3⟩
      · cases h
set_option maxRecDepth 4000 in
theorem propsP_step {s : List UInt8} {ps : List Pr} {i : Nat} {p : Pr} {m : Nat} (h : propP s ps i = .ok p m) : propsP s ps i = if s[m]? = some 125 then .ok (ps ++ [p]) (m + 1) else if s[m]? = some 44 then propsP s (ps ++ [p]) (m + 1) else .bad m 11 := by
  rw [propsP, h]
  have := propP_ok h
  simp only
  split
  · rfl
  · by_cases h44 : s[m]? = some 44
    · rw [dif_pos ⟨h44, by omega⟩, if_pos h44]
    · rw [dif_neg (fun hh => h44 hh.1), if_neg h44]
set_option maxRecDepth 4000 in
theorem propsP_bad {s : List UInt8} {ps : List Pr} {i : Nat} {p : Nat} {e : Int} (h : propP s ps i = .bad p e) : propsP s ps i = .bad p e := by rw [propsP, h]

set_option maxRecDepth 4000 in
theorem propsP_range (k : Nat) : ∀ (s : List UInt8) (ps : List Pr) (i : Nat), s.length - i ≤ k → i ≤ s.length →
    (∀ l j, propsP s ps i = .ok l j → i < j ∧ j ≤ s.length ∧ chk l = 0 ∧ l ≠ []) ∧ (∀ p e, propsP s ps i = .bad p e → p ≤ s.length ∧ e ≠ 0) := by
  induction k with
  | zero =>
    intro s ps i hk hi
    cases h : propP s ps i with
    | bad p e =>
      rw [propsP_bad h]
      exact ⟨fun l j hh => (nomatch hh), fun p' e' hh => by injection hh with h1 h2; subst h1 h2; exact propP_bad hi h⟩
    | ok p m => have := propP_ok h; omega
  | succ k ih =>
    intro s ps i hk hi
    cases h : propP s ps i with
    | bad p e =>
      rw [propsP_bad h]
      exact ⟨fun l j hh => (nomatch hh), fun p' e' hh => by injection hh with h1 h2; subst h1 h2; exact propP_bad hi h⟩
    | ok p m =>
      have hp := propP_ok h
      rw [propsP_step h]
      by_cases h1 : s[m]? = some 125
      · rw [if_pos h1]
        have := at_lt h1
        refine ⟨fun l j hh => ?_, fun p' e' hh => (nomatch hh)⟩
        injection hh with h2 h3
        subst h2 h3
        exact ⟨by omega, by omega, hp.2.2.2.2.1, by simp⟩
      · rw [if_neg h1]
        by_cases h2 : s[m]? = some 44
        · rw [if_pos h2]
          have := at_lt h2
          obtain ⟨a, b⟩ := ih s (ps ++ [p]) (m + 1) (by omega) (by omega)
          exact ⟨fun l j hh => by have := a l j hh; exact ⟨by omega, this.2⟩, b⟩
        · rw [if_neg h2]
          refine ⟨fun l j hh => (nomatch hh), fun p' e' hh => ?_⟩
          injection hh with h3 h4
          subst h3 h4
          exact ⟨hp.2.2.2.2.2.2, by decide⟩
set_option maxRecDepth 4000 in
theorem headP_range {s : List UInt8} {i : Nat} (hi : i ≤ s.length) : (∀ l j, headP s i = .ok l j → i ≤ j ∧ j ≤ s.length ∧ chk l = 0) ∧ (∀ p e, headP s i = .bad p e → p ≤ s.length ∧ e ≠ 0) := by
  unfold headP
  split
  · rename_i h
    have := at_lt h
    obtain ⟨a, b⟩ := propsP_range _ s [] (i + 1) (Nat.le_refl _) (by omega)
    exact ⟨fun l j hh => by have := a l j hh; exact ⟨by omega, by omega, this.2.2.1⟩, b⟩
  · refine ⟨fun l j hh => ?_, fun p e hh => (nomatch hh)⟩
    injection hh with h1 h2
    subst h1 h2
    exact ⟨by omega, hi, rfl⟩
set_option maxRecDepth 4000 in
theorem qEnd_range {s : List UInt8} {j : Nat} (h : s[j]? = some 34) : j < qEnd s j ∧ qEnd s j ≤ s.length := by
  unfold qEnd
  have h1 := at_lt h
  have h2 := endL_ge (fun b => b != 34) s (j + 1)
  omega
set_option maxRecDepth 4000 in
theorem unqS_range {s : List UInt8} {j : Nat} (h : s[j]? = some 34) : (unqS s j).2.2 ≠ 0 → 0 ≤ (unqS s j).2.1 ∧ j + (unqS s j).2.1.toNat ≤ s.length := by
  intro he
  have h1 := qEnd_range h
  have h2 := unqL_err (cutS s j (qEnd s j)) (unqS s j).1 (unqS s j).2.1 (unqS s j).2.2 rfl he
  rw [cutS_len _ _ _ h1.2] at h2
  omega
set_option maxRecDepth 4000 in
theorem bodyP_range {s : List UInt8} {ps : List Pr} {j : Nat} (hj : j ≤ s.length) : (∀ n m, bodyP s ps j = .ok n m → j < m ∧ m ≤ s.length ∧ n.ps = ps ∧ n.ks = []) ∧ (∀ p e, bodyP s ps j = .bad p e → p ≤ s.length ∧ e ≠ 0) := by
  unfold bodyP
  split
  · rename_i h
    have := at_lt h
    refine ⟨fun n m hh => ?_, fun p e hh => (nomatch hh)⟩
    injection hh with h1 h2
    subst h1 h2
    exact ⟨by omega, by omega, rfl, rfl⟩
  · split
    · rename_i h
      have h1 := qEnd_range h
      have h2 := unqS_range h
      split
      · rename_i h3
        refine ⟨fun n m hh => (nomatch hh), fun p e hh => ?_⟩
        injection hh with h4 h5
        subst h4 h5
        exact ⟨(h2 h3).2, h3⟩
      · refine ⟨fun n m hh => ?_, fun p e hh => (nomatch hh)⟩
        injection hh with h4 h5
        subst h4 h5
        exact ⟨h1.1, h1.2, rfl, rfl⟩
    · refine ⟨fun n m hh => (nomatch hh), fun p e hh => ?_⟩
      injection hh with h4 h5
      subst h4 h5
      exact ⟨hj, by decide⟩
set_option maxRecDepth 4000 in
theorem beginP_range {s : List UInt8} {i : Nat} (hi : i ≤ s.length) : (∀ n j, beginP s i = .ok n j → i < j ∧ j ≤ s.length ∧ chk n.ps = 0 ∧ n.ks = []) ∧ (∀ p e, beginP s i = .bad p e → p ≤ s.length ∧ e ≠ 0) := by
  unfold beginP
  obtain ⟨a, b⟩ := headP_range hi
  cases h : headP s i with
  | bad p e => exact ⟨fun n j hh => (nomatch hh), fun p' e' hh => by injection hh with h1 h2; subst h1 h2; exact b p e h⟩
  | ok ps j =>
    have ha := a ps j h
    obtain ⟨c, d⟩ := bodyP_range (ps := ps) ha.2.1
    exact ⟨fun n m hh => by have := c n m hh; exact ⟨by omega, by omega, by rw [this.2.2.1]; exact ha.2.2, this.2.2.2⟩, d⟩

set_option maxRecDepth 4000 in
/-- Reading goes on, and stays within the text. -/
theorem node_range (k : Nat) : ∀ (s : List UInt8) (i : Nat), s.length - i < k → i ≤ s.length →
    (∀ n j, nodeW s i = .ok n j → i < j ∧ j ≤ s.length) ∧ (∀ p e, nodeW s i = .bad p e → p ≤ s.length ∧ e ≠ 0) ∧
    (∀ u n j, kidsW s u i = .ok n j → i < j ∧ j ≤ s.length) ∧ (∀ u p e, kidsW s u i = .bad p e → p ≤ s.length ∧ e ≠ 0) := by
  induction k with
  | zero => intro s i h; omega
  | succ k ih =>
    intro s i hk hi
    obtain ⟨b1, b2⟩ := beginP_range hi
    have hN : (∀ n j, nodeW s i = .ok n j → i < j ∧ j ≤ s.length) ∧ (∀ p e, nodeW s i = .bad p e → p ≤ s.length ∧ e ≠ 0) := by
      rw [nodeW]
      cases hb : beginP s i with
      | bad p e => exact ⟨fun n j hh => (nomatch hh), fun p' e' hh => by injection hh with h1 h2; subst h1 h2; exact b2 p e hb⟩
      | ok n j =>
        have hr := b1 n j hb
        simp only
        split
        · refine ⟨fun n' j' hh => ?_, fun p e hh => (nomatch hh)⟩
          injection hh with h1 h2
          subst h1 h2
          exact ⟨hr.1, hr.2.1⟩
        · rw [dif_pos ⟨hr.1, hr.2.1⟩]
          obtain ⟨_, _, c, d⟩ := ih s j (by omega) hr.2.1
          exact ⟨fun n' j' hh => by have := c n n' j' hh; omega, d n⟩
    refine ⟨hN.1, hN.2, fun u n j hh => ?_, fun u p e hh => ?_⟩
    · rw [kidsW] at hh
      split at hh
      · rename_i h93
        have := at_lt h93
        injection hh with h1 h2
        omega
      · cases hn : nodeW s i with
        | bad p e => rw [hn] at hh; cases hh
        | ok k' j' =>
          have hr := hN.1 k' j' hn
          rw [hn] at hh
          simp only at hh
          rw [dif_pos ⟨hr.1, hr.2⟩] at hh
          have := (ih s j' (by omega) hr.2).2.2.1 _ n j hh
          omega
    · rw [kidsW] at hh
      split at hh
      · cases hh
      · cases hn : nodeW s i with
        | bad p' e' =>
          rw [hn] at hh
          injection hh with h1 h2
          subst h1 h2
          exact hN.2 p' e' hn
        | ok k' j' =>
          have hr := hN.1 k' j' hn
          rw [hn] at hh
          simp only at hh
          rw [dif_pos ⟨hr.1, hr.2⟩] at hh
          exact (ih s j' (by omega) hr.2).2.2.2 _ p e hh
set_option maxRecDepth 4000 in
theorem node_ok {s : List UInt8} {i j : Nat} {n : NT} (hi : i ≤ s.length) (h : nodeW s i = .ok n j) : i < j ∧ j ≤ s.length := (node_range _ s i (Nat.lt_succ_self _) hi).1 n j h
set_option maxRecDepth 4000 in
theorem node_bad {s : List UInt8} {i p : Nat} {e : Int} (hi : i ≤ s.length) (h : nodeW s i = .bad p e) : p ≤ s.length ∧ e ≠ 0 := (node_range _ s i (Nat.lt_succ_self _) hi).2.1 p e h
set_option maxRecDepth 4000 in
theorem kids_ok {s : List UInt8} {i j : Nat} {u n : NT} (hi : i ≤ s.length) (h : kidsW s u i = .ok n j) : i < j ∧ j ≤ s.length := (node_range _ s i (Nat.lt_succ_self _) hi).2.2.1 u n j h
set_option maxRecDepth 4000 in
theorem kids_bad {s : List UInt8} {i p : Nat} {u : NT} {e : Int} (hi : i ≤ s.length) (h : kidsW s u i = .bad p e) : p ≤ s.length ∧ e ≠ 0 := (node_range _ s i (Nat.lt_succ_self _) hi).2.2.2 u p e h

set_option maxRecDepth 4000 in
/-- The rules without the bounds. -/
theorem nodeW_bad {s : List UInt8} {i p : Nat} {e : Int} (h : beginP s i = .bad p e) : nodeW s i = .bad p e := by rw [nodeW, h]
set_option maxRecDepth 4000 in
theorem nodeW_leaf {s : List UInt8} {i j : Nat} {n : NT} (h : beginP s i = .ok n j) (hl : n.lf = true) : nodeW s i = .ok n j := by
  rw [nodeW, h]; simp only; rw [if_pos hl]
set_option maxRecDepth 4000 in
theorem nodeW_elem {s : List UInt8} {i j : Nat} {n : NT} (hi : i ≤ s.length) (h : beginP s i = .ok n j) (hl : n.lf = false) : nodeW s i = kidsW s n j := by
  have hr := (beginP_range hi).1 n j h
  rw [nodeW, h]; simp only; rw [if_neg (by simp [hl]), dif_pos ⟨hr.1, hr.2.1⟩]
set_option maxRecDepth 4000 in
theorem kidsW_end {s : List UInt8} {u : NT} {j : Nat} (h : s[j]? = some 93) : kidsW s u j = .ok u (j + 1) := by rw [kidsW, if_pos h]
set_option maxRecDepth 4000 in
theorem kidsW_bad {s : List UInt8} {u : NT} {j p : Nat} {e : Int} (h : s[j]? ≠ some 93) (hn : nodeW s j = .bad p e) : kidsW s u j = .bad p e := by rw [kidsW, if_neg h, hn]
set_option maxRecDepth 4000 in
theorem kidsW_step {s : List UInt8} {u k : NT} {j j' : Nat} (hj : j ≤ s.length) (h : s[j]? ≠ some 93) (hn : nodeW s j = .ok k j') : kidsW s u j = kidsW s (addK u k) j' := by
  have hr := node_ok hj hn
  rw [kidsW, if_neg h, hn]; simp only; rw [dif_pos hr]
set_option maxRecDepth 4000 in
theorem wrapW_kids {s : List UInt8} {u : NT} {st : List NT} {j : Nat} (hj : j ≤ s.length) (h : s[j]? ≠ some 93) : wrapW s st (kidsW s u j) = wrapW s (u :: st) (nodeW s j) := by
  cases hn : nodeW s j with
  | bad p e => rw [kidsW_bad h hn, wrapW_bad, wrapW_bad]
  | ok k j' => rw [kidsW_step hj h hn]; rfl

/-! What is written is read. -/

theorem isLet58 : isLet 58 = false := by decide
set_option maxRecDepth 4000 in
theorem isVal_stop {c : UInt8} (h : c = 44 ∨ c = 125) : isVal c = false := by rcases h with rfl | rfl <;> decide
set_option maxRecDepth 4000 in
theorem leT_pos (ps : List Pr) (p : Pr) : prT 123 (p :: ps) ++ [125] = 123 :: (p.1.data.toList ++ 58 :: (p.2.data.toList ++ (prT 44 ps ++ [125]))) := by simp [prT]
set_option maxRecDepth 4000 in
theorem propsP_write : ∀ (r : List Pr) (s : List UInt8) (ps : List Pr) (p : Pr) (rest : List UInt8) (i : Nat), chk (ps ++ p :: r) = 0 → s.drop i = p.1.data.toList ++ 58 :: (p.2.data.toList ++ (prT 44 r ++ 125 :: rest)) →
    propsP s ps i = .ok (ps ++ p :: r) (i + (p.1.data.toList ++ 58 :: (p.2.data.toList ++ (prT 44 r ++ [125]))).length)
  | r, s, ps, p, rest, i, hc, hs => by
    have hc1 : chk (ps ++ [p]) = 0 := by
      have e : ps ++ p :: r = (ps ++ [p]) ++ r := by simp
      rw [e] at hc; exact chk_prefix hc
    obtain ⟨hk, hv⟩ := chk_last hc1
    obtain ⟨k1, k2, k3⟩ := keyB_parts hk
    obtain ⟨v1, v2⟩ := valB_parts hv
    have lk : p.1.data.toList.length = p.1.size := data_size _
    have lv : p.2.data.toList.length = p.2.size := data_size _
    have e1 : endL isLet s i = i + p.1.data.toList.length := endL_run hs k3 (fun c hcc => by simp at hcc; rw [← hcc]; exact isLet58)
    have d1 := drop_more hs
    obtain ⟨a1, d2⟩ := dropC d1
    have hnx : ∀ c, (prT 44 r ++ 125 :: rest)[0]? = some c → isVal c = false := by
      intro c hcc
      cases r with
      | nil => simp [prT] at hcc; exact isVal_stop (.inr hcc.symm)
      | cons q r => simp [prT] at hcc; exact isVal_stop (.inl hcc.symm)
    have e2 : endL isVal s (i + p.1.data.toList.length + 1) = i + p.1.data.toList.length + 1 + p.2.data.toList.length := endL_run d2 v2 hnx
    have d3 := drop_more d2
    have c1 : cutS s i (i + p.1.data.toList.length) = p.1.data.toList := cutS_of hs
    have c2 : cutS s (i + p.1.data.toList.length + 1) (i + p.1.data.toList.length + 1 + p.2.data.toList.length) = p.2.data.toList := cutS_of d2
    have ep : prOf s i = p := by unfold prOf; rw [e1, e2, c1, c2, mkB_of, mkB_of]
    have hP : propP s ps i = .ok p (i + p.1.data.toList.length + 1 + p.2.data.toList.length) := by
      unfold propP
      rw [ep, e1, e2, if_neg (by omega), if_neg (by rw [a1]; simp), if_neg (by rw [hc1]; simp)]
    rw [propsP_step hP]
    cases r with
    | nil =>
      simp only [prT, List.nil_append] at d3
      rw [if_pos (dropC d3).1]
      congr 1
      simp [prT]; omega
    | cons q r =>
      simp only [prT, List.cons_append, List.append_assoc] at d3
      obtain ⟨a3, d4⟩ := dropC d3
      rw [if_neg (by rw [a3]; decide), if_pos a3]
      have := propsP_write r s (ps ++ [p]) q rest (i + p.1.data.toList.length + 1 + p.2.data.toList.length + 1) (by simpa using hc) d4
      rw [this]
      congr 1
      · simp
      · simp [prT]; omega
set_option maxRecDepth 4000 in
theorem headP_write (s : List UInt8) (ps : List Pr) (rest : List UInt8) (i : Nat) (hc : chk ps = 0) (hr : ∀ c, rest[0]? = some c → c ≠ 123) (hs : s.drop i = propsT ps ++ rest) : headP s i = .ok ps (i + (propsT ps).length) := by
  unfold headP
  cases ps with
  | nil =>
    rw [propsT, List.nil_append] at hs
    rw [if_neg (fun h => by rw [at_drop, hs] at h; exact hr 123 h rfl)]
    rfl
  | cons p r =>
    have e : propsT (p :: r) ++ rest = 123 :: (p.1.data.toList ++ 58 :: (p.2.data.toList ++ (prT 44 r ++ 125 :: rest))) := by simp [propsT, prT]
    rw [e] at hs
    obtain ⟨a1, d1⟩ := dropC hs
    rw [if_pos a1, propsP_write r s [] p rest (i + 1) (by simpa using hc) d1]
    congr 1
    simp [propsT, prT]; omega
set_option maxRecDepth 4000 in
theorem bodyL_all {l : List Int} (h : okR l = true) : (bodyL l).all (fun b => b != 34) = true := by
  rw [List.all_eq_true]
  intro b hb
  obtain ⟨c, hc, hbc⟩ := List.mem_flatMap.1 hb
  have hr : isR c = true := List.all_eq_true.1 h c hc
  unfold escL at hbc
  split at hbc
  · rename_i hp
    have hpp := (isP_iff c).1 hp
    rw [List.mem_singleton] at hbc
    subst hbc
    rw [bne_iff_ne]
    intro e
    have := congrArg UInt8.toNat e
    simp at this
    omega
  · rw [bne_iff_ne]
    rintro rfl
    rcases List.mem_cons.1 hbc with h1 | h1
    · cases h1
    · rcases List.mem_append.1 h1 with h2 | h2
      · have := (hexL_spec c.toNat).1 34 h2
        simp [isH] at this
      · rw [List.mem_singleton] at h2; cases h2
set_option maxRecDepth 4000 in
theorem qEnd_write {s : List UInt8} {tx : List Int} {rest : List UInt8} {j : Nat} (h : okR tx = true) (hs : s.drop j = quoL tx ++ rest) : qEnd s j = j + (quoL tx).length := by
  have e : quoL tx ++ rest = 34 :: (bodyL tx ++ (34 :: rest)) := by unfold quoL; simp
  rw [e] at hs
  obtain ⟨a1, d1⟩ := dropC hs
  unfold qEnd
  rw [endL_run d1 (bodyL_all h) (fun c hc => by simp at hc; rw [← hc]; rfl), quoL_len]
  have d2 := drop_more d1
  have := at_lt (dropC d2).1
  omega
set_option maxRecDepth 4000 in
theorem bodyP_leaf {s : List UInt8} {ps : List Pr} {tx : List Int} {rest : List UInt8} {j : Nat} (h : okR tx = true) (hs : s.drop j = quoL tx ++ rest) : bodyP s ps j = .ok (.mk true ps tx []) (j + (quoL tx).length) := by
  have hq := qEnd_write h hs
  have e : quoL tx ++ rest = 34 :: (bodyL tx ++ (34 :: rest)) := by unfold quoL; simp
  have hu : unqS s j = (tx, 0, 0) := by unfold unqS; rw [hq, cutS_of hs, unqL_quo tx h]
  have a1 : s[j]? = some 34 := by rw [e] at hs; exact (dropC hs).1
  unfold bodyP
  rw [if_neg (by rw [a1]; decide), if_pos a1, hu, hq]
  simp
set_option maxRecDepth 4000 in
theorem bodyP_elem {s : List UInt8} {ps : List Pr} {rest : List UInt8} {j : Nat} (hs : s.drop j = 91 :: rest) : bodyP s ps j = .ok (.mk false ps [] []) (j + 1) := by
  unfold bodyP; rw [if_pos (dropC hs).1]

set_option maxRecDepth 4000 in
/-- The texts' first bytes. -/
theorem quoL_head (tx : List Int) (rest : List UInt8) : (quoL tx ++ rest)[0]? = some 34 := rfl
set_option maxRecDepth 4000 in
theorem txtT_head (n : NT) (rest : List UInt8) : ∃ c, (txtT n ++ rest)[0]? = some c ∧ (c = 123 ∨ c = 34 ∨ c = 91) := by
  cases n with
  | mk lf ps tx ks =>
    cases ps with
    | nil =>
      rw [txtT, propsT]
      cases lf
      · exact ⟨91, by simp, by simp⟩
      · exact ⟨34, by simp [quoL], by simp⟩
    | cons p r =>
      rw [txtT, propsT]
      exact ⟨123, by simp [prT], by simp⟩
set_option maxRecDepth 4000 in
theorem txtT_pos (n : NT) : 0 < (txtT n).length := by
  obtain ⟨c, h, _⟩ := txtT_head n []
  rw [List.append_nil] at h
  exact (List.getElem?_eq_some_iff.1 h).1
set_option maxRecDepth 4000 in
theorem oneE_parts {lf : Bool} {ps : List Pr} {tx : List Int} {nk : Nat} (h : oneE lf ps tx nk = 0) : chk ps = 0 ∧ okR tx = true ∧ (lf = true → nk = 0) ∧ (lf = false → tx = []) := by
  have h1 := oneE_zero h
  unfold oneE at h
  rw [if_neg (by simp [h1])] at h
  split at h
  · cases h
  · rename_i h2
    refine ⟨h1, ?_, fun e => ?_, fun e => ?_⟩
    · unfold chkL at h; split at h
      · assumption
      · cases h
    · subst e; simp at h2; omega
    · subst e; simp at h2; exact h2
set_option maxRecDepth 4000 in
theorem beginP_write {s rest : List UInt8} {lf : Bool} {ps : List Pr} {tx : List Int} {ks : List NT} {i : Nat} (h : oneE lf ps tx ks.length = 0) (hs : s.drop i = txtT (.mk lf ps tx ks) ++ rest) :
    (lf = true → ks = [] ∧ beginP s i = .ok (.mk true ps tx []) (i + (txtT (.mk lf ps tx ks)).length)) ∧
    (lf = false → tx = [] ∧ beginP s i = .ok (.mk false ps [] []) (i + (propsT ps).length + 1) ∧ s.drop (i + (propsT ps).length + 1) = txtK ks ++ 93 :: rest) := by
  obtain ⟨h1, h2, h3, h4⟩ := oneE_parts h
  refine ⟨fun e => ?_, fun e => ?_⟩
  · subst e
    have hk : ks = [] := List.eq_nil_of_length_eq_zero (h3 rfl)
    refine ⟨hk, ?_⟩
    subst hk
    rw [txtT] at hs ⊢
    simp only [if_true, List.append_assoc] at hs ⊢
    have hh := headP_write s ps (quoL tx ++ rest) i h1 (fun c hc => by rw [quoL_head] at hc; injection hc with hc; rw [← hc]; decide) hs
    unfold beginP
    rw [hh]
    show bodyP s ps _ = _
    rw [bodyP_leaf h2 (drop_more hs), List.length_append, Nat.add_assoc]
  · subst e
    refine ⟨h4 rfl, ?_⟩
    rw [txtT] at hs
    simp only [Bool.false_eq_true, if_false, List.append_assoc, List.cons_append, List.nil_append] at hs
    have hh := headP_write s ps (91 :: (txtK ks ++ (93 :: rest))) i h1 (fun c hc => by simp at hc; rw [← hc]; decide) hs
    unfold beginP
    rw [hh]
    have d1 := drop_more hs
    exact ⟨bodyP_elem d1, (dropC d1).2⟩
set_option maxRecDepth 4000 in
theorem txtT_elem (ps : List Pr) (tx : List Int) (ks : List NT) : (txtT (.mk false ps tx ks)).length = (propsT ps).length + 1 + (txtK ks).length + 1 := by
  rw [txtT]; simp; omega
set_option maxRecDepth 4000 in
theorem mk_add (u : NT) (k : NT) (r : List NT) : NT.mk (addK u k).lf (addK u k).ps (addK u k).tx ((addK u k).ks ++ r) = .mk u.lf u.ps u.tx (u.ks ++ k :: r) := by
  simp [addK, NT.lf, NT.ps, NT.tx, NT.ks]
set_option maxRecDepth 4000 in
theorem head_no93 {s rest : List UInt8} {n : NT} {j : Nat} (hs : s.drop j = txtT n ++ rest) : s[j]? ≠ some 93 := by
  obtain ⟨c, hc, h3⟩ := txtT_head n rest
  rw [at_drop, hs, hc]
  intro e
  injection e with e
  subst e
  rcases h3 with h | h | h <;> cases h
set_option maxRecDepth 4000 in
theorem app_ne {a b : List UInt8} (h : 0 < a.length) : a ++ b ≠ [] := fun e => by
  have h2 := congrArg List.length e
  rw [List.length_append, List.length_nil] at h2
  omega
set_option maxRecDepth 4000 in
theorem drop_le {s a : List UInt8} {i : Nat} (h : s.drop i = a) (ha : a ≠ []) : i ≤ s.length := by
  rcases Nat.lt_or_ge s.length i with h1 | h1
  · exact absurd (h ▸ List.drop_eq_nil_of_le (by omega)) ha
  · exact h1
set_option maxRecDepth 4000 in
mutual
/-- A tree's text is read as the tree. -/
theorem node_write : ∀ (n : NT) (s rest : List UInt8) (i : Nat), chkT n = 0 → s.drop i = txtT n ++ rest → nodeW s i = .ok n (i + (txtT n).length)
  | .mk lf ps tx ks, s, rest, i, hc, hs => by
    obtain ⟨c1, c2⟩ := chkT_zero hc
    have hi : i ≤ s.length := drop_le hs (app_ne (txtT_pos _))
    obtain ⟨b1, b2⟩ := beginP_write c1 hs
    cases lf
    · obtain ⟨e1, e2, e3⟩ := b2 rfl
      rw [nodeW_elem hi e2 rfl, kids_write ks s rest _ _ c2 e3, txtT_elem]
      subst e1
      congr 1
      omega
    · obtain ⟨e1, e2⟩ := b1 rfl
      subst e1
      rw [nodeW_leaf e2 rfl]
theorem kids_write : ∀ (ks : List NT) (s rest : List UInt8) (u : NT) (j : Nat), chkK ks = 0 → s.drop j = txtK ks ++ 93 :: rest → kidsW s u j = .ok (.mk u.lf u.ps u.tx (u.ks ++ ks)) (j + (txtK ks).length + 1)
  | [], s, rest, u, j, _, hs => by
    rw [txtK, List.nil_append] at hs
    rw [kidsW_end (dropC hs).1, List.append_nil, NT.eta]
    rfl
  | k :: r, s, rest, u, j, hc, hs => by
    obtain ⟨c1, c2⟩ := chkK_zero hc
    rw [txtK, List.append_assoc] at hs
    have hj : j ≤ s.length := drop_le hs (app_ne (txtT_pos _))
    rw [kidsW_step hj (head_no93 hs) (node_write k s _ j c1 hs), kids_write r s rest _ _ c2 (drop_more hs), mk_add, txtK, List.length_append]
    congr 1
    omega
end

end Go.Proofs.YtknkclbjocfhiaaDoor

namespace Go.Proofs.YtknkclbjocfhiaaDoor
open Go.RowKit

theorem cutS_more {s : List UInt8} {i j : Nat} {c : UInt8} (hi : i ≤ j) (h : s[j]? = some c) : cutS s i (j + 1) = cutS s i j ++ [c] := by
  rw [cutS_append s hi (Nat.le_succ j), cutS_one h]
set_option maxRecDepth 4000 in
theorem prOf_data (s : List UInt8) (i : Nat) : (prOf s i).1.data.toList = cutS s i (endL isLet s i) ∧ (prOf s i).2.data.toList = cutS s (endL isLet s i + 1) (endL isVal s (endL isLet s i + 1)) := ⟨rfl, rfl⟩
set_option maxRecDepth 4000 in
theorem propP_text {s : List UInt8} {ps : List Pr} {i : Nat} {p : Pr} {m : Nat} (h : propP s ps i = .ok p m) : cutS s i m = p.1.data.toList ++ 58 :: p.2.data.toList := by
  obtain ⟨h1, h2, h3, h4, _, _, _⟩ := propP_ok h
  obtain ⟨d1, d2⟩ := prOf_data s i
  have e2 := endL_ge isVal s (endL isLet s i + 1)
  rw [h4, d1, d2, h3, cutS_append s (show i ≤ endL isLet s i + 1 by omega) e2, cutS_more (by omega) h2, List.append_assoc]
  rfl
set_option maxRecDepth 4000 in
theorem propsP_text (k : Nat) : ∀ (s : List UInt8) (ps : List Pr) (i : Nat) (l : List Pr) (j : Nat), s.length - i ≤ k → i ≤ s.length → propsP s ps i = .ok l j →
    ∃ r, l = ps ++ r ∧ r ≠ [] ∧ ∀ a, a :: cutS s i j = prT a r ++ [125] := by
  induction k with
  | zero =>
    intro s ps i l j hk hi h
    cases hp : propP s ps i with
    | bad p e => rw [propsP_bad hp] at h; cases h
    | ok p m => have := propP_ok hp; omega
  | succ k ih =>
    intro s ps i l j hk hi h
    cases hp : propP s ps i with
    | bad p e => rw [propsP_bad hp] at h; cases h
    | ok p m =>
      have hpp := propP_ok hp
      have ht := propP_text hp
      rw [propsP_step hp] at h
      by_cases h1 : s[m]? = some 125
      · rw [if_pos h1] at h
        injection h with h2 h3
        subst h2 h3
        refine ⟨[p], rfl, by simp, fun a => ?_⟩
        rw [cutS_more (by omega) h1, ht]
        simp [prT]
      · rw [if_neg h1] at h
        by_cases h2 : s[m]? = some 44
        · rw [if_pos h2] at h
          have := at_lt h2
          obtain ⟨r, e1, e2, e3⟩ := ih s (ps ++ [p]) (m + 1) l j (by omega) (by omega) h
          have hj := ((propsP_range _ s (ps ++ [p]) (m + 1) (Nat.le_refl _) (by omega)).1 l j h).1
          refine ⟨p :: r, by rw [e1]; simp, by simp, fun a => ?_⟩
          have e4 := e3 44
          rw [cutS_append s (show i ≤ m by omega) (show m ≤ j by omega), cutS_append s (Nat.le_succ m) (show m + 1 ≤ j by omega), cutS_one h2, ht]
          show a :: (_ ++ (44 :: cutS s (m + 1) j)) = _
          rw [e4]
          simp [prT]
        · rw [if_neg h2] at h; cases h
set_option maxRecDepth 4000 in
theorem headP_text {s : List UInt8} {i j : Nat} {l : List Pr} (_hi : i ≤ s.length) (h : headP s i = .ok l j) : cutS s i j = propsT l := by
  unfold headP at h
  split at h
  · rename_i h1
    have := at_lt h1
    obtain ⟨r, e1, e2, e3⟩ := propsP_text _ s [] (i + 1) l j (Nat.le_refl _) (by omega) h
    have hj := ((propsP_range _ s [] (i + 1) (Nat.le_refl _) (by omega)).1 l j h).1
    rw [List.nil_append] at e1
    subst e1
    rw [cutS_append s (Nat.le_succ i) (show i + 1 ≤ j by omega), cutS_one h1]
    show 123 :: cutS s (i + 1) j = _
    rw [e3 123]
    cases l with
    | nil => exact absurd rfl e2
    | cons p r => rfl
  · injection h with h1 h2
    subst h1 h2
    rw [cutS_self]; rfl
set_option maxRecDepth 4000 in
theorem begin_text {s : List UInt8} {i j : Nat} {n : NT} (hi : i ≤ s.length) (h : beginP s i = .ok n j) :
    (n.lf = true → cutS s i j = txtT n ∧ chkT n = 0) ∧ (n.lf = false → n = .mk false n.ps [] [] ∧ cutS s i j = propsT n.ps ++ [91] ∧ chk n.ps = 0) := by
  unfold beginP at h
  cases hh : headP s i with
  | bad p e => rw [hh] at h; cases h
  | ok ps m =>
    rw [hh] at h
    have hr := (headP_range hi).1 ps m hh
    have ht := headP_text hi hh
    have h : bodyP s ps m = .ok n j := h
    have hb := (bodyP_range (ps := ps) hr.2.1).1 n j h
    unfold bodyP at h
    split at h
    · rename_i h1
      injection h with h2 h3
      subst h2 h3
      refine ⟨fun e => (nomatch e), fun _ => ⟨rfl, ?_, hr.2.2⟩⟩
      rw [cutS_more hr.1 h1, ht]; rfl
    · split at h
      · rename_i h1
        split at h
        · cases h
        · rename_i h2
          injection h with h3 h4
          subst h3 h4
          have h2' : (unqS s m).2.2 = 0 := by simpa using h2
          obtain ⟨u1, u2, u3⟩ := unqL_inv (cutS s m (qEnd s m)) (unqS s m).1 (unqS s m).2.1 (by
            rw [← h2']; rfl)
          refine ⟨fun _ => ⟨?_, ?_⟩, fun e => (nomatch e)⟩
          · rw [cutS_append s hr.1 (show m ≤ qEnd s m by omega), ht, u3, txtT]; simp
          · have e0 : chk ps = 0 := hr.2.2
            rw [chkT, if_neg]
            · rfl
            · unfold oneE
              rw [if_neg (by simp [e0])]
              simp [chkL, u1]
      · cases h
set_option maxRecDepth 4000 in
/-- What is read was written so. -/
theorem node_text (k : Nat) : ∀ (s : List UInt8) (i : Nat), s.length - i < k → i ≤ s.length →
    (∀ n j, nodeW s i = .ok n j → cutS s i j = txtT n ∧ chkT n = 0) ∧
    (∀ u n j, kidsW s u i = .ok n j → ∃ r, n = .mk u.lf u.ps u.tx (u.ks ++ r) ∧ cutS s i j = txtK r ++ [93] ∧ chkK r = 0) := by
  induction k with
  | zero => intro s i h; omega
  | succ k ih =>
    intro s i hk hi
    have hN : ∀ n j, nodeW s i = .ok n j → cutS s i j = txtT n ∧ chkT n = 0 := by
      intro n j h
      cases hb : beginP s i with
      | bad p e => rw [nodeW_bad hb] at h; cases h
      | ok n0 j0 =>
        obtain ⟨b1, b2⟩ := begin_text hi hb
        have hr := (beginP_range hi).1 n0 j0 hb
        cases hl : n0.lf
        · rw [nodeW_elem hi hb hl] at h
          obtain ⟨e1, e2, e3⟩ := b2 hl
          obtain ⟨r, k1, k2, k3⟩ := (ih s j0 (by omega) hr.2.1).2 n0 n j h
          have hj := kids_ok hr.2.1 h
          have hx : n = .mk false n0.ps [] r := by
            rw [k1, e1]; simp [NT.lf, NT.ps, NT.tx, NT.ks]
          rw [hx]
          refine ⟨?_, ?_⟩
          · rw [cutS_append s (show i ≤ j0 by omega) (show j0 ≤ j by omega), e2, k2, txtT]; simp
          · rw [chkT, if_neg, k3]
            unfold oneE
            rw [if_neg (by simp [e3])]
            simp [chkL, okR]
        · rw [nodeW_leaf hb hl] at h
          injection h with h1 h2
          subst h1 h2
          exact b1 hl
    refine ⟨hN, fun u n j h => ?_⟩
    by_cases h93 : s[i]? = some 93
    · rw [kidsW_end h93] at h
      injection h with h1 h2
      subst h1 h2
      exact ⟨[], by rw [List.append_nil, NT.eta], by rw [cutS_one h93]; rfl, rfl⟩
    · cases hn : nodeW s i with
      | bad p e => rw [kidsW_bad h93 hn] at h; cases h
      | ok k' j' =>
        have hr := node_ok hi hn
        rw [kidsW_step hi h93 hn] at h
        obtain ⟨t1, t2⟩ := hN k' j' hn
        obtain ⟨r, k1, k2, k3⟩ := (ih s j' (by omega) hr.2).2 _ n j h
        have hj := kids_ok hr.2 h
        refine ⟨k' :: r, by rw [k1, mk_add], ?_, ?_⟩
        · rw [cutS_append s (show i ≤ j' by omega) (show j' ≤ j by omega), t1, k2, txtK, List.append_assoc]
        · rw [chkK, if_neg (by simp [t2]), k3]
set_option maxRecDepth 4000 in
theorem cutS_all (s : List UInt8) : cutS s 0 s.length = s := by unfold cutS; simp

/-! A whole text. -/

theorem parse_ok {s : List UInt8} {n : NT} (h : nodeW s 0 = .ok n s.length) : parseL s = (n, 0, 0) := by
  unfold parseL; rw [h]; simp
set_option maxRecDepth 4000 in
theorem parse_more {s : List UInt8} {n : NT} {j : Nat} (h : nodeW s 0 = .ok n j) (hj : j < s.length) : parseL s = (noT, j, 11) := by
  unfold parseL; rw [h]; simp only; rw [if_pos hj]
set_option maxRecDepth 4000 in
theorem parse_bad {s : List UInt8} {p : Nat} {e : Int} (h : nodeW s 0 = .bad p e) : parseL s = (noT, p, e) := by
  unfold parseL; rw [h]
set_option maxRecDepth 4000 in
theorem parse_no {s : List UInt8} {n : NT} {p : Nat} {e : Int} (h : parseL s = (n, p, e)) (he : e ≠ 0) : n = noT ∧ p ≤ s.length := by
  cases hn : nodeW s 0 with
  | bad p' e' =>
    rw [parse_bad hn] at h
    simp only [Prod.mk.injEq] at h
    obtain ⟨rfl, rfl, rfl⟩ := h
    exact ⟨rfl, (node_bad (Nat.zero_le _) hn).1⟩
  | ok m j =>
    by_cases hj : j < s.length
    · rw [parse_more hn hj] at h
      simp only [Prod.mk.injEq] at h
      obtain ⟨rfl, rfl, rfl⟩ := h
      exact ⟨rfl, by omega⟩
    · have := node_ok (Nat.zero_le _) hn
      obtain rfl : j = s.length := by omega
      rw [parse_ok hn] at h
      simp only [Prod.mk.injEq] at h
      omega
set_option maxRecDepth 4000 in
/-- What is read without an error was written so. -/
theorem parse_inv {s : List UInt8} {n : NT} {p : Nat} (h : parseL s = (n, p, 0)) : txtT n = s ∧ chkT n = 0 ∧ p = 0 := by
  cases hn : nodeW s 0 with
  | bad p' e' =>
    rw [parse_bad hn] at h
    simp only [Prod.mk.injEq] at h
    exact absurd h.2.2 (node_bad (Nat.zero_le _) hn).2
  | ok m j =>
    by_cases hj : j < s.length
    · rw [parse_more hn hj] at h
      simp only [Prod.mk.injEq] at h
      omega
    · have := node_ok (Nat.zero_le _) hn
      obtain rfl : j = s.length := by omega
      rw [parse_ok hn] at h
      simp only [Prod.mk.injEq] at h
      obtain ⟨rfl, rfl, _⟩ := h
      obtain ⟨t1, t2⟩ := (node_text _ s 0 (Nat.lt_succ_self _) (Nat.zero_le _)).1 m _ hn
      rw [cutS_all] at t1
      exact ⟨t1.symm, t2, rfl⟩
set_option maxRecDepth 4000 in
/-- What is written is read. -/
theorem parse_text {n : NT} (h : chkT n = 0) : parseL (txtT n) = (n, 0, 0) := by
  have := node_write n (txtT n) [] 0 h (by simp)
  rw [Nat.zero_add] at this
  exact parse_ok this
set_option maxRecDepth 4000 in
/-- More behind it: told where the node's text ends. -/
theorem parse_two {n : NT} {rest : List UInt8} (h : chkT n = 0) (hr : rest ≠ []) : parseL (txtT n ++ rest) = (noT, (txtT n).length, 11) := by
  have := node_write n (txtT n ++ rest) rest 0 h (by simp)
  rw [Nat.zero_add] at this
  have hl := List.length_pos_iff.2 hr
  exact parse_more this (by rw [List.length_append]; omega)
set_option maxRecDepth 4000 in
theorem node_at_end (s : List UInt8) : nodeW s s.length = .bad s.length 11 := by
  apply nodeW_bad
  have e : s[s.length]? = none := by simp
  unfold beginP headP
  rw [e, if_neg (by simp)]
  show bodyP s [] s.length = _
  unfold bodyP
  rw [e, if_neg (by simp), if_neg (by simp)]
set_option maxRecDepth 4000 in
/-- Kids without their end. -/
theorem kids_open : ∀ (ks : List NT) (s : List UInt8) (u : NT) (j : Nat), chkK ks = 0 → j ≤ s.length → s.drop j = txtK ks → kidsW s u j = .bad s.length 11
  | [], s, u, j, _, hj, hs => by
    rw [txtK] at hs
    have : s.length ≤ j := List.drop_eq_nil_iff.1 hs
    obtain rfl : j = s.length := by omega
    exact kidsW_bad (by simp) (node_at_end s)
  | k :: r, s, u, j, hc, hj, hs => by
    obtain ⟨c1, c2⟩ := chkK_zero hc
    rw [txtK] at hs
    have hn := node_write k s (txtK r) j c1 hs
    rw [kidsW_step hj (head_no93 hs) hn]
    exact kids_open r s _ _ c2 (node_ok hj hn).2 (drop_more hs)
set_option maxRecDepth 4000 in
/-- An element of two Kids. -/
theorem parse_kids {a b : NT} (ha : chkT a = 0) (hb : chkT b = 0) : parseL (91 :: (txtT a ++ (txtT b ++ [93]))) = (.mk false [] [] [a, b], 0, 0) := by
  have e : 91 :: (txtT a ++ (txtT b ++ [93])) = txtT (.mk false [] [] [a, b]) := by simp [txtT, txtK, propsT]
  rw [e]
  apply parse_text
  have hk : chkK [a, b] = 0 := by rw [chkK, if_neg (by simp [ha]), chkK, if_neg (by simp [hb]), chkK]
  rw [chkT, if_neg, hk]
  simp [oneE, chk, firstE, chkL, okR]
set_option maxRecDepth 4000 in
theorem parse_open {a b : NT} (ha : chkT a = 0) (hb : chkT b = 0) : parseL (91 :: (txtT a ++ txtT b)) = (noT, 1 + (txtT a).length + (txtT b).length, 11) := by
  obtain ⟨s, hs⟩ : ∃ s, s = 91 :: (txtT a ++ txtT b) := ⟨_, rfl⟩
  rw [← hs]
  have hb0 : beginP s 0 = .ok (.mk false [] [] []) 1 := by
    unfold beginP headP
    have e : s[0]? = some 91 := by rw [hs]; rfl
    rw [e, if_neg (by decide)]
    show bodyP s [] 0 = _
    unfold bodyP
    rw [e, if_pos rfl]
  have hk : chkK [a, b] = 0 := by rw [chkK, if_neg (by simp [ha]), chkK, if_neg (by simp [hb]), chkK]
  have hl : s.length = 1 + (txtT a).length + (txtT b).length := by rw [hs]; simp; omega
  have := kids_open [a, b] s (.mk false [] [] []) 1 hk (by omega) (by rw [hs]; simp [txtK])
  rw [← nodeW_elem (Nat.zero_le _) hb0 rfl, hl] at this
  exact parse_bad this
set_option maxRecDepth 4000 in
/-- The last byte left out. -/
theorem parse_cut {n : NT} (h : chkT n = 0) : parseL ((txtT n).take ((txtT n).length - 1)) = (noT, (txtT n).length - 1, 11) := by
  cases n with
  | mk lf ps tx ks =>
    obtain ⟨c1, c2⟩ := chkT_zero h
    obtain ⟨h1, h2, h3, h4⟩ := oneE_parts c1
    have hp := txtT_pos (.mk lf ps tx ks)
    cases lf
    · have ht : tx = [] := h4 rfl
      subst ht
      have e : (txtT (.mk false ps [] ks)).take ((txtT (.mk false ps [] ks)).length - 1) = propsT ps ++ 91 :: txtK ks := by
        have e0 : txtT (.mk false ps [] ks) = (propsT ps ++ 91 :: txtK ks) ++ [93] := by rw [txtT]; simp
        rw [e0]; exact List.take_left' (by simp)
      have hl : (txtT (.mk false ps [] ks)).length - 1 = (propsT ps ++ 91 :: txtK ks).length := by rw [txtT_elem]; simp; omega
      rw [e, hl]
      obtain ⟨s, hs⟩ : ∃ s, s = propsT ps ++ 91 :: txtK ks := ⟨_, rfl⟩
      rw [← hs]
      have hh := headP_write s ps (91 :: txtK ks) 0 h1 (fun c hc => by simp at hc; rw [← hc]; decide) (by rw [hs]; rfl)
      rw [Nat.zero_add] at hh
      have d1 : s.drop (propsT ps).length = 91 :: txtK ks := by rw [hs]; exact List.drop_left' rfl
      have hb0 : beginP s 0 = .ok (.mk false ps [] []) ((propsT ps).length + 1) := by
        unfold beginP; rw [hh]; exact bodyP_elem d1
      have hlen : (propsT ps).length + 1 ≤ s.length := by rw [hs]; simp
      have := kids_open ks s (.mk false ps [] []) _ c2 hlen (dropC d1).2
      rw [← nodeW_elem (Nat.zero_le _) hb0 rfl] at this
      exact parse_bad this
    · have hk : ks = [] := List.eq_nil_of_length_eq_zero (h3 rfl)
      subst hk
      have e0 : txtT (.mk true ps tx []) = (propsT ps ++ 34 :: bodyL tx) ++ [34] := by rw [txtT]; simp [quoL]
      have e : (txtT (.mk true ps tx [])).take ((txtT (.mk true ps tx [])).length - 1) = propsT ps ++ 34 :: bodyL tx := by
        rw [e0]; exact List.take_left' (by simp)
      have hl : (txtT (.mk true ps tx [])).length - 1 = (propsT ps ++ 34 :: bodyL tx).length := by rw [e0]; simp
      rw [e, hl]
      obtain ⟨s, hs⟩ : ∃ s, s = propsT ps ++ 34 :: bodyL tx := ⟨_, rfl⟩
      rw [← hs]
      have hh := headP_write s ps (34 :: bodyL tx) 0 h1 (fun c hc => by simp at hc; rw [← hc]; decide) (by rw [hs]; rfl)
      rw [Nat.zero_add] at hh
      have d1 : s.drop (propsT ps).length = 34 :: bodyL tx := by rw [hs]; exact List.drop_left' rfl
      obtain ⟨a1, d2⟩ := dropC d1
      have hsl : s.length = (propsT ps).length + 1 + (bodyL tx).length := by rw [hs]; simp; omega
      have hq : qEnd s (propsT ps).length = s.length := by
        unfold qEnd
        rw [endL_run (a := bodyL tx) (rest := []) (by rw [d2, List.append_nil]) (bodyL_all h2) (fun c hc => by simp at hc)]
        omega
      have hu : unqS s (propsT ps).length = ([], ((quoL tx).length : Int) - 1, 11) := by
        unfold unqS
        rw [hq]
        have := unqL_less tx h2
        have e2 : (quoL tx).take ((quoL tx).length - 1) = 34 :: bodyL tx := by
          rw [quoL_len]
          exact List.take_left' (l₁ := 34 :: bodyL tx) (by simp)
        rw [e2] at this
        have e3 : cutS s (propsT ps).length s.length = 34 :: bodyL tx := by
          have := cutS_of (s := s) (a := 34 :: bodyL tx) (rest := []) (i := (propsT ps).length) (by rw [d1, List.append_nil])
          rw [← this]; congr 1; rw [hsl]; simp; omega
        rw [e3]; exact this
      have hb0 : beginP s 0 = .bad s.length 11 := by
        unfold beginP; rw [hh]
        show bodyP s ps _ = _
        unfold bodyP
        rw [a1, if_neg (by decide), if_pos rfl, hu]
        simp only [ne_eq]
        rw [if_pos (by decide), quoL_len, hsl]
        congr 1
        omega
      exact parse_bad (nodeW_bad hb0)
set_option maxRecDepth 4000 in
theorem parse_byte {n : NT} (h : chkT n = 0) (b : UInt8) : parseL (txtT n ++ [b]) = (noT, (txtT n).length, 11) := parse_two h (by simp)

/-! How much there is in a tree. -/

mutual
def weighT : NT → Nat
  | .mk _ ps tx ks => 1 + tx.length + ps.length + weighK ks
def weighK : List NT → Nat
  | [] => 0
  | k :: r => weighT k + weighK r
end
set_option maxRecDepth 4000 in
mutual
theorem left_weigh : ∀ (n : NT) (m : Int), FitT n → chkT n = 0 → 0 ≤ m → m ≤ 1000 → (0 ≤ leftT m n → (weighT n : Int) ≤ m) ∧ ((weighT n : Int) ≤ m → leftT m n = m - weighT n)
  | .mk lf ps tx ks, m, hf, hc, h0, h1 => by
    obtain ⟨f1, f2, f3⟩ := hf
    obtain ⟨c1, c2⟩ := chkT_zero hc
    have hw : wrap64 (m - (1 + tx.length + ps.length)) = m - (1 + tx.length + ps.length) := wrap_id _ (by omega) (by omega)
    have hp : propsW (m - (1 + tx.length + ps.length)) ps = m - (1 + tx.length + ps.length) := propsW_small _ _ ⟨by omega, by omega⟩ (chk_small (oneE_zero c1))
    rw [leftT, hw, hp]
    split
    · rename_i hn
      simp only [weighT]
      exact ⟨fun h => by omega, fun h => by omega⟩
    · rename_i hn
      have := leftK_weigh ks (m - (1 + tx.length + ps.length)) f3 c2 (by omega) (by omega)
      simp only [weighT]
      exact ⟨fun h => by have := this.1 h; omega, fun h => by rw [this.2 (by omega)]; omega⟩
theorem leftK_weigh : ∀ (l : List NT) (m : Int), FitK l → chkK l = 0 → 0 ≤ m → m ≤ 1000 → (0 ≤ leftK m l → (weighK l : Int) ≤ m) ∧ ((weighK l : Int) ≤ m → leftK m l = m - weighK l)
  | [], m, _, _, _, _ => by simp [leftK, weighK]
  | k :: r, m, hf, hc, h0, h1 => by
    obtain ⟨c1, c2⟩ := chkK_zero hc
    have a := left_weigh k m hf.1 c1 h0 h1
    rw [leftK]
    simp only [weighK]
    split
    · rename_i hn
      refine ⟨fun h => by omega, fun h => ?_⟩
      have := a.2 (by omega)
      omega
    · rename_i hn
      have a1 := a.1 (by omega)
      have a2 := a.2 a1
      rw [a2]
      have b := leftK_weigh r (m - weighT k) hf.2 c2 (by omega) (by omega)
      exact ⟨fun h => by have := b.1 h; omega, fun h => by rw [b.2 (by omega)]; omega⟩
end
set_option maxRecDepth 4000 in
theorem few_of {n : NT} {m : Int} (hf : FitT n) (hc : chkT n = 0) (h0 : 0 ≤ m) (h1 : m ≤ 1000) (h : (weighT n : Int) ≤ m) : fewB m n = true := by
  unfold fewB
  rw [(left_weigh n m hf hc h0 h1).2 h]
  exact decide_eq_true (by omega)
set_option maxRecDepth 4000 in
theorem of_few {n : NT} {m : Int} (hf : FitT n) (hc : chkT n = 0) (h0 : 0 ≤ m) (h1 : m ≤ 1000) (h : fewB m n = true) : (weighT n : Int) ≤ m :=
  (left_weigh n m hf hc h0 h1).1 (of_decide_eq_true h)
set_option maxRecDepth 4000 in
theorem bodyL_ge' (l : List Int) : l.length ≤ (bodyL l).length := by
  induction l with
  | nil => simp
  | cons c l ih => rw [bodyL_cons, List.length_append, List.length_cons]; have := escL_pos c; omega
set_option maxRecDepth 4000 in
theorem prT_ge (a : UInt8) (l : List Pr) : l.length ≤ (prT a l).length := by
  induction l generalizing a with
  | nil => simp
  | cons p r ih => have := ih 44; simp [prT]; omega
set_option maxRecDepth 4000 in
theorem propsT_ge (l : List Pr) : l.length ≤ (propsT l).length := by
  cases l with
  | nil => simp
  | cons p r => have := prT_ge 123 (p :: r); rw [propsT, List.length_append]; omega
set_option maxRecDepth 4000 in
mutual
/-- What a text says is less than its bytes. -/
theorem weigh_txt : ∀ n : NT, chkT n = 0 → weighT n ≤ (txtT n).length
  | .mk lf ps tx ks, hc => by
    obtain ⟨c1, c2⟩ := chkT_zero hc
    obtain ⟨h1, h2, h3, h4⟩ := oneE_parts c1
    have hp := propsT_ge ps
    cases lf
    · have := h4 rfl
      subst this
      have := weighK_txt ks c2
      rw [txtT_elem]; simp only [weighT, List.length_nil]; omega
    · have : ks = [] := List.eq_nil_of_length_eq_zero (h3 rfl)
      subst this
      have := bodyL_ge' tx
      rw [txtT]; simp only [weighT, weighK, if_true, List.length_append, quoL_len]; omega
theorem weighK_txt : ∀ l : List NT, chkK l = 0 → weighK l ≤ (txtK l).length
  | [], _ => by simp [weighK]
  | k :: r, hc => by
    obtain ⟨c1, c2⟩ := chkK_zero hc
    have h1 := weigh_txt k c1
    have h2 := weighK_txt r c2
    simp only [weighK, txtK, List.length_append]; omega
end
set_option maxRecDepth 4000 in
mutual
theorem size_weigh : ∀ n : NT, sizeT n ≤ weighT n
  | .mk lf ps tx ks => by have := sizeK_weigh ks; simp only [sizeT, weighT]; omega
theorem sizeK_weigh : ∀ l : List NT, sizeK l ≤ weighK l
  | [] => by simp [sizeK]
  | k :: r => by have h1 := size_weigh k; have h2 := sizeK_weigh r; simp only [sizeK, weighK]; omega
end
set_option maxRecDepth 4000 in
/-- How long a text may be. -/
theorem prT_le (a : UInt8) (l : List Pr) (h : ∀ p ∈ l, keyB p.1 = true ∧ valB p.2 = true) : (prT a l).length ≤ 50 * l.length := by
  induction l generalizing a with
  | nil => simp [prT]
  | cons p r ih =>
    have h1 := ih 44 fun q hq => h q (List.mem_cons_of_mem _ hq)
    obtain ⟨k, v⟩ := h p (List.mem_cons_self ..)
    obtain ⟨_, k2, _⟩ := keyB_parts k
    obtain ⟨v1, _⟩ := valB_parts v
    have d1 := data_size p.1
    have d2 := data_size p.2
    simp only [prT, List.length_cons, List.length_append]
    omega
set_option maxRecDepth 4000 in
theorem chk_all {l : List Pr} (h : chk l = 0) : ∀ p ∈ l, keyB p.1 = true ∧ valB p.2 = true := by
  intro p hp
  obtain ⟨a, b, rfl⟩ := List.append_of_mem hp
  have e : a ++ p :: b = (a ++ [p]) ++ b := by simp
  rw [e] at h
  exact chk_last (chk_prefix h)
set_option maxRecDepth 4000 in
theorem propsT_le {l : List Pr} (h : chk l = 0) : (propsT l).length ≤ 50 * l.length + 1 := by
  cases l with
  | nil => simp [propsT]
  | cons p r => have := prT_le 123 (p :: r) (chk_all h); rw [propsT, List.length_append]; simp at this ⊢; omega
set_option maxRecDepth 4000 in
mutual
theorem txt_weigh : ∀ n : NT, chkT n = 0 → (txtT n).length ≤ 50 * weighT n
  | .mk lf ps tx ks, hc => by
    obtain ⟨c1, c2⟩ := chkT_zero hc
    obtain ⟨h1, h2, h3, h4⟩ := oneE_parts c1
    have hp := propsT_le h1
    cases lf
    · have := txtK_weigh ks c2
      rw [txtT_elem]; simp only [weighT]; omega
    · have : ks = [] := List.eq_nil_of_length_eq_zero (h3 rfl)
      subst this
      have := bodyL_len tx h2
      rw [txtT]; simp only [weighT, weighK, if_true, List.length_append, quoL_len]; omega
theorem txtK_weigh : ∀ l : List NT, chkK l = 0 → (txtK l).length ≤ 50 * weighK l
  | [], _ => by simp [txtK]
  | k :: r, hc => by
    obtain ⟨c1, c2⟩ := chkK_zero hc
    have h1 := txt_weigh k c1
    have h2 := txtK_weigh r c2
    simp only [weighK, txtK, List.length_append]; omega
end

end Go.Proofs.YtknkclbjocfhiaaDoor
