/- What is read was written so; a text cut short, or with more behind it; how much a tree's text says: over plain lists. -/
import Derived.Test.YtknkclbjocfhiaaDoorCRound
namespace Go.Proofs.YtknkclbjocfhiaaDoor
open Go.RowKit

theorem cutS_more {s : List UInt8} {i j : Nat} {c : UInt8} (hi : i ≤ j) (h : s[j]? = some c) : cutS s i (j + 1) = cutS s i j ++ [c] := by
  rw [cutS_append s hi (Nat.le_succ j), cutS_one h]
set_option maxRecDepth 4000 in
theorem prOf_data (s : List UInt8) (i : Nat) : (prOf s i).1.data.toList = cutS s i (endL isLet s i) ∧ (prOf s i).2.data.toList = cutS s (endL isLet s i + 1) (endL isVal s (endL isLet s i + 1)) := ⟨rfl, rfl⟩
set_option maxRecDepth 4000 in
theorem propP_text {s : List UInt8} {ps : List Pr} {i : Nat} {p : Pr} {m : Nat} (h : propP s ps i = .ok p m) : cutS s i m = p.1.data.toList ++ 58 :: p.2.data.toList := by
  obtain ⟨h1, h2, h3, h4, _, _, _⟩ := propP_ok h
  obtain ⟨d1, d2⟩ := prOf_data s i
  have e2 := endL_ge isVal s (endL isLet s i + 1)
  rw [h4, d1, d2, h3, cutS_append s (show i ≤ endL isLet s i + 1 by omega) e2, cutS_more (by omega) h2, List.append_assoc]
  rfl
set_option maxRecDepth 4000 in
theorem propsP_text (k : Nat) : ∀ (s : List UInt8) (ps : List Pr) (i : Nat) (l : List Pr) (j : Nat), s.length - i ≤ k → i ≤ s.length → propsP s ps i = .ok l j →
    ∃ r, l = ps ++ r ∧ r ≠ [] ∧ ∀ a, a :: cutS s i j = prT a r ++ [125] := by
  induction k with
  | zero =>
    intro s ps i l j hk hi h
    cases hp : propP s ps i with
    | bad p e => rw [propsP_bad hp] at h; cases h
    | ok p m => have := propP_ok hp; omega
  | succ k ih =>
    intro s ps i l j hk hi h
    cases hp : propP s ps i with
    | bad p e => rw [propsP_bad hp] at h; cases h
    | ok p m =>
      have hpp := propP_ok hp
      have ht := propP_text hp
      rw [propsP_step hp] at h
      by_cases h1 : s[m]? = some 125
      · rw [if_pos h1] at h
        injection h with h2 h3
        subst h2 h3
        refine ⟨[p], rfl, by simp, fun a => ?_⟩
        rw [cutS_more (by omega) h1, ht]
        simp [prT]
      · rw [if_neg h1] at h
        by_cases h2 : s[m]? = some 44
        · rw [if_pos h2] at h
          have := at_lt h2
          obtain ⟨r, e1, e2, e3⟩ := ih s (ps ++ [p]) (m + 1) l j (by omega) (by omega) h
          have hj := ((propsP_range _ s (ps ++ [p]) (m + 1) (Nat.le_refl _) (by omega)).1 l j h).1
          refine ⟨p :: r, by rw [e1]; simp, by simp, fun a => ?_⟩
          have e4 := e3 44
          rw [cutS_append s (show i ≤ m by omega) (show m ≤ j by omega), cutS_append s (Nat.le_succ m) (show m + 1 ≤ j by omega), cutS_one h2, ht]
          show a :: (_ ++ (44 :: cutS s (m + 1) j)) = _
          rw [e4]
          simp [prT]
        · rw [if_neg h2] at h; cases h
set_option maxRecDepth 4000 in
theorem headP_text {s : List UInt8} {i j : Nat} {l : List Pr} (_hi : i ≤ s.length) (h : headP s i = .ok l j) : cutS s i j = propsT l := by
  unfold headP at h
  split at h
  · rename_i h1
    have := at_lt h1
    obtain ⟨r, e1, e2, e3⟩ := propsP_text _ s [] (i + 1) l j (Nat.le_refl _) (by omega) h
    have hj := ((propsP_range _ s [] (i + 1) (Nat.le_refl _) (by omega)).1 l j h).1
    rw [List.nil_append] at e1
    subst e1
    rw [cutS_append s (Nat.le_succ i) (show i + 1 ≤ j by omega), cutS_one h1]
    show 123 :: cutS s (i + 1) j = _
    rw [e3 123]
    cases l with
    | nil => exact absurd rfl e2
    | cons p r => rfl
  · injection h with h1 h2
    subst h1 h2
    rw [cutS_self]; rfl
set_option maxRecDepth 4000 in
theorem begin_text {s : List UInt8} {i j : Nat} {n : NT} (hi : i ≤ s.length) (h : beginP s i = .ok n j) :
    (n.lf = true → cutS s i j = txtT n ∧ chkT n = 0) ∧ (n.lf = false → n = .mk false n.ps [] [] ∧ cutS s i j = propsT n.ps ++ [91] ∧ chk n.ps = 0) := by
  unfold beginP at h
  cases hh : headP s i with
  | bad p e => rw [hh] at h; cases h
  | ok ps m =>
    rw [hh] at h
    have hr := (headP_range hi).1 ps m hh
    have ht := headP_text hi hh
    have h : bodyP s ps m = .ok n j := h
    have hb := (bodyP_range (ps := ps) hr.2.1).1 n j h
    unfold bodyP at h
    split at h
    · rename_i h1
      injection h with h2 h3
      subst h2 h3
      refine ⟨fun e => (nomatch e), fun _ => ⟨rfl, ?_, hr.2.2⟩⟩
      rw [cutS_more hr.1 h1, ht]; rfl
    · split at h
      · rename_i h1
        split at h
        · cases h
        · rename_i h2
          injection h with h3 h4
          subst h3 h4
          have h2' : (unqS s m).2.2 = 0 := by simpa using h2
          obtain ⟨u1, u2, u3⟩ := unqL_inv (cutS s m (qEnd s m)) (unqS s m).1 (unqS s m).2.1 (by
            rw [← h2']; rfl)
          refine ⟨fun _ => ⟨?_, ?_⟩, fun e => (nomatch e)⟩
          · rw [cutS_append s hr.1 (show m ≤ qEnd s m by omega), ht, u3, txtT]; simp
          · have e0 : chk ps = 0 := hr.2.2
            rw [chkT, if_neg]
            · rfl
            · unfold oneE
              rw [if_neg (by simp [e0])]
              simp [chkL, u1]
      · cases h
set_option maxRecDepth 4000 in
/-- What is read was written so. -/
theorem node_text (k : Nat) : ∀ (s : List UInt8) (i : Nat), s.length - i < k → i ≤ s.length →
    (∀ n j, nodeW s i = .ok n j → cutS s i j = txtT n ∧ chkT n = 0) ∧
    (∀ u n j, kidsW s u i = .ok n j → ∃ r, n = .mk u.lf u.ps u.tx (u.ks ++ r) ∧ cutS s i j = txtK r ++ [93] ∧ chkK r = 0) := by
  induction k with
  | zero => intro s i h; omega
  | succ k ih =>
    intro s i hk hi
    have hN : ∀ n j, nodeW s i = .ok n j → cutS s i j = txtT n ∧ chkT n = 0 := by
      intro n j h
      cases hb : beginP s i with
      | bad p e => rw [nodeW_bad hb] at h; cases h
      | ok n0 j0 =>
        obtain ⟨b1, b2⟩ := begin_text hi hb
        have hr := (beginP_range hi).1 n0 j0 hb
        cases hl : n0.lf
        · rw [nodeW_elem hi hb hl] at h
          obtain ⟨e1, e2, e3⟩ := b2 hl
          obtain ⟨r, k1, k2, k3⟩ := (ih s j0 (by omega) hr.2.1).2 n0 n j h
          have hj := kids_ok hr.2.1 h
          have hx : n = .mk false n0.ps [] r := by
            rw [k1, e1]; simp [NT.lf, NT.ps, NT.tx, NT.ks]
          rw [hx]
          refine ⟨?_, ?_⟩
          · rw [cutS_append s (show i ≤ j0 by omega) (show j0 ≤ j by omega), e2, k2, txtT]; simp
          · rw [chkT, if_neg, k3]
            unfold oneE
            rw [if_neg (by simp [e3])]
            simp [chkL, okR]
        · rw [nodeW_leaf hb hl] at h
          injection h with h1 h2
          subst h1 h2
          exact b1 hl
    refine ⟨hN, fun u n j h => ?_⟩
    by_cases h93 : s[i]? = some 93
    · rw [kidsW_end h93] at h
      injection h with h1 h2
      subst h1 h2
      exact ⟨[], by rw [List.append_nil, NT.eta], by rw [cutS_one h93]; rfl, rfl⟩
    · cases hn : nodeW s i with
      | bad p e => rw [kidsW_bad h93 hn] at h; cases h
      | ok k' j' =>
        have hr := node_ok hi hn
        rw [kidsW_step hi h93 hn] at h
        obtain ⟨t1, t2⟩ := hN k' j' hn
        obtain ⟨r, k1, k2, k3⟩ := (ih s j' (by omega) hr.2).2 _ n j h
        have hj := kids_ok hr.2 h
        refine ⟨k' :: r, by rw [k1, mk_add], ?_, ?_⟩
        · rw [cutS_append s (show i ≤ j' by omega) (show j' ≤ j by omega), t1, k2, txtK, List.append_assoc]
        · rw [chkK, if_neg (by simp [t2]), k3]
set_option maxRecDepth 4000 in
theorem cutS_all (s : List UInt8) : cutS s 0 s.length = s := by unfold cutS; simp

/-! A whole text. -/

theorem parse_ok {s : List UInt8} {n : NT} (h : nodeW s 0 = .ok n s.length) : parseL s = (n, 0, 0) := by
  unfold parseL; rw [h]; simp
set_option maxRecDepth 4000 in
theorem parse_more {s : List UInt8} {n : NT} {j : Nat} (h : nodeW s 0 = .ok n j) (hj : j < s.length) : parseL s = (noT, j, 11) := by
  unfold parseL; rw [h]; simp only; rw [if_pos hj]
set_option maxRecDepth 4000 in
theorem parse_bad {s : List UInt8} {p : Nat} {e : Int} (h : nodeW s 0 = .bad p e) : parseL s = (noT, p, e) := by
  unfold parseL; rw [h]
set_option maxRecDepth 4000 in
theorem parse_no {s : List UInt8} {n : NT} {p : Nat} {e : Int} (h : parseL s = (n, p, e)) (he : e ≠ 0) : n = noT ∧ p ≤ s.length := by
  cases hn : nodeW s 0 with
  | bad p' e' =>
    rw [parse_bad hn] at h
    simp only [Prod.mk.injEq] at h
    obtain ⟨rfl, rfl, rfl⟩ := h
    exact ⟨rfl, (node_bad (Nat.zero_le _) hn).1⟩
  | ok m j =>
    by_cases hj : j < s.length
    · rw [parse_more hn hj] at h
      simp only [Prod.mk.injEq] at h
      obtain ⟨rfl, rfl, rfl⟩ := h
      exact ⟨rfl, by omega⟩
    · have := node_ok (Nat.zero_le _) hn
      obtain rfl : j = s.length := by omega
      rw [parse_ok hn] at h
      simp only [Prod.mk.injEq] at h
      omega
set_option maxRecDepth 4000 in
/-- What is read without an error was written so. -/
theorem parse_inv {s : List UInt8} {n : NT} {p : Nat} (h : parseL s = (n, p, 0)) : txtT n = s ∧ chkT n = 0 ∧ p = 0 := by
  cases hn : nodeW s 0 with
  | bad p' e' =>
    rw [parse_bad hn] at h
    simp only [Prod.mk.injEq] at h
    exact absurd h.2.2 (node_bad (Nat.zero_le _) hn).2
  | ok m j =>
    by_cases hj : j < s.length
    · rw [parse_more hn hj] at h
      simp only [Prod.mk.injEq] at h
      omega
    · have := node_ok (Nat.zero_le _) hn
      obtain rfl : j = s.length := by omega
      rw [parse_ok hn] at h
      simp only [Prod.mk.injEq] at h
      obtain ⟨rfl, rfl, _⟩ := h
      obtain ⟨t1, t2⟩ := (node_text _ s 0 (Nat.lt_succ_self _) (Nat.zero_le _)).1 m _ hn
      rw [cutS_all] at t1
      exact ⟨t1.symm, t2, rfl⟩
set_option maxRecDepth 4000 in
/-- What is written is read. -/
theorem parse_text {n : NT} (h : chkT n = 0) : parseL (txtT n) = (n, 0, 0) := by
  have := node_write n (txtT n) [] 0 h (by simp)
  rw [Nat.zero_add] at this
  exact parse_ok this
set_option maxRecDepth 4000 in
/-- More behind it: told where the node's text ends. -/
theorem parse_two {n : NT} {rest : List UInt8} (h : chkT n = 0) (hr : rest ≠ []) : parseL (txtT n ++ rest) = (noT, (txtT n).length, 11) := by
  have := node_write n (txtT n ++ rest) rest 0 h (by simp)
  rw [Nat.zero_add] at this
  have hl := List.length_pos_iff.2 hr
  exact parse_more this (by rw [List.length_append]; omega)
set_option maxRecDepth 4000 in
theorem node_at_end (s : List UInt8) : nodeW s s.length = .bad s.length 11 := by
  apply nodeW_bad
  have e : s[s.length]? = none := by simp
  unfold beginP headP
  rw [e, if_neg (by simp)]
  show bodyP s [] s.length = _
  unfold bodyP
  rw [e, if_neg (by simp), if_neg (by simp)]
set_option maxRecDepth 4000 in
/-- Kids without their end. -/
theorem kids_open : ∀ (ks : List NT) (s : List UInt8) (u : NT) (j : Nat), chkK ks = 0 → j ≤ s.length → s.drop j = txtK ks → kidsW s u j = .bad s.length 11
  | [], s, u, j, _, hj, hs => by
    rw [txtK] at hs
    have : s.length ≤ j := List.drop_eq_nil_iff.1 hs
    obtain rfl : j = s.length := by omega
    exact kidsW_bad (by simp) (node_at_end s)
  | k :: r, s, u, j, hc, hj, hs => by
    obtain ⟨c1, c2⟩ := chkK_zero hc
    rw [txtK] at hs
    have hn := node_write k s (txtK r) j c1 hs
    rw [kidsW_step hj (head_no93 hs) hn]
    exact kids_open r s _ _ c2 (node_ok hj hn).2 (drop_more hs)
set_option maxRecDepth 4000 in
/-- An element of two Kids. -/
theorem parse_kids {a b : NT} (ha : chkT a = 0) (hb : chkT b = 0) : parseL (91 :: (txtT a ++ (txtT b ++ [93]))) = (.mk false [] [] [a, b], 0, 0) := by
  have e : 91 :: (txtT a ++ (txtT b ++ [93])) = txtT (.mk false [] [] [a, b]) := by simp [txtT, txtK, propsT]
  rw [e]
  apply parse_text
  have hk : chkK [a, b] = 0 := by rw [chkK, if_neg (by simp [ha]), chkK, if_neg (by simp [hb]), chkK]
  rw [chkT, if_neg, hk]
  simp [oneE, chk, firstE, chkL, okR]
set_option maxRecDepth 4000 in
theorem parse_open {a b : NT} (ha : chkT a = 0) (hb : chkT b = 0) : parseL (91 :: (txtT a ++ txtT b)) = (noT, 1 + (txtT a).length + (txtT b).length, 11) := by
  obtain ⟨s, hs⟩ : ∃ s, s = 91 :: (txtT a ++ txtT b) := ⟨_, rfl⟩
  rw [← hs]
  have hb0 : beginP s 0 = .ok (.mk false [] [] []) 1 := by
    unfold beginP headP
    have e : s[0]? = some 91 := by rw [hs]; rfl
    rw [e, if_neg (by decide)]
    show bodyP s [] 0 = _
    unfold bodyP
    rw [e, if_pos rfl]
  have hk : chkK [a, b] = 0 := by rw [chkK, if_neg (by simp [ha]), chkK, if_neg (by simp [hb]), chkK]
  have hl : s.length = 1 + (txtT a).length + (txtT b).length := by rw [hs]; simp; omega
  have := kids_open [a, b] s (.mk false [] [] []) 1 hk (by omega) (by rw [hs]; simp [txtK])
  rw [← nodeW_elem (Nat.zero_le _) hb0 rfl, hl] at this
  exact parse_bad this
set_option maxRecDepth 4000 in
/-- The last byte left out. -/
theorem parse_cut {n : NT} (h : chkT n = 0) : parseL ((txtT n).take ((txtT n).length - 1)) = (noT, (txtT n).length - 1, 11) := by
  cases n with
  | mk lf ps tx ks =>
    obtain ⟨c1, c2⟩ := chkT_zero h
    obtain ⟨h1, h2, h3, h4⟩ := oneE_parts c1
    have hp := txtT_pos (.mk lf ps tx ks)
    cases lf
    · have ht : tx = [] := h4 rfl
      subst ht
      have e : (txtT (.mk false ps [] ks)).take ((txtT (.mk false ps [] ks)).length - 1) = propsT ps ++ 91 :: txtK ks := by
        have e0 : txtT (.mk false ps [] ks) = (propsT ps ++ 91 :: txtK ks) ++ [93] := by rw [txtT]; simp
        rw [e0]; exact List.take_left' (by simp)
      have hl : (txtT (.mk false ps [] ks)).length - 1 = (propsT ps ++ 91 :: txtK ks).length := by rw [txtT_elem]; simp; omega
      rw [e, hl]
      obtain ⟨s, hs⟩ : ∃ s, s = propsT ps ++ 91 :: txtK ks := ⟨_, rfl⟩
      rw [← hs]
      have hh := headP_write s ps (91 :: txtK ks) 0 h1 (fun c hc => by simp at hc; rw [← hc]; decide) (by rw [hs]; rfl)
      rw [Nat.zero_add] at hh
      have d1 : s.drop (propsT ps).length = 91 :: txtK ks := by rw [hs]; exact List.drop_left' rfl
      have hb0 : beginP s 0 = .ok (.mk false ps [] []) ((propsT ps).length + 1) := by
        unfold beginP; rw [hh]; exact bodyP_elem d1
      have hlen : (propsT ps).length + 1 ≤ s.length := by rw [hs]; simp
      have := kids_open ks s (.mk false ps [] []) _ c2 hlen (dropC d1).2
      rw [← nodeW_elem (Nat.zero_le _) hb0 rfl] at this
      exact parse_bad this
    · have hk : ks = [] := List.eq_nil_of_length_eq_zero (h3 rfl)
      subst hk
      have e0 : txtT (.mk true ps tx []) = (propsT ps ++ 34 :: bodyL tx) ++ [34] := by rw [txtT]; simp [quoL]
      have e : (txtT (.mk true ps tx [])).take ((txtT (.mk true ps tx [])).length - 1) = propsT ps ++ 34 :: bodyL tx := by
        rw [e0]; exact List.take_left' (by simp)
      have hl : (txtT (.mk true ps tx [])).length - 1 = (propsT ps ++ 34 :: bodyL tx).length := by rw [e0]; simp
      rw [e, hl]
      obtain ⟨s, hs⟩ : ∃ s, s = propsT ps ++ 34 :: bodyL tx := ⟨_, rfl⟩
      rw [← hs]
      have hh := headP_write s ps (34 :: bodyL tx) 0 h1 (fun c hc => by simp at hc; rw [← hc]; decide) (by rw [hs]; rfl)
      rw [Nat.zero_add] at hh
      have d1 : s.drop (propsT ps).length = 34 :: bodyL tx := by rw [hs]; exact List.drop_left' rfl
      obtain ⟨a1, d2⟩ := dropC d1
      have hsl : s.length = (propsT ps).length + 1 + (bodyL tx).length := by rw [hs]; simp; omega
      have hq : qEnd s (propsT ps).length = s.length := by
        unfold qEnd
        rw [endL_run (a := bodyL tx) (rest := []) (by rw [d2, List.append_nil]) (bodyL_all h2) (fun c hc => by simp at hc)]
        omega
      have hu : unqS s (propsT ps).length = ([], ((quoL tx).length : Int) - 1, 11) := by
        unfold unqS
        rw [hq]
        have := unqL_less tx h2
        have e2 : (quoL tx).take ((quoL tx).length - 1) = 34 :: bodyL tx := by
          rw [quoL_len]
          exact List.take_left' (l₁ := 34 :: bodyL tx) (by simp)
        rw [e2] at this
        have e3 : cutS s (propsT ps).length s.length = 34 :: bodyL tx := by
          have := cutS_of (s := s) (a := 34 :: bodyL tx) (rest := []) (i := (propsT ps).length) (by rw [d1, List.append_nil])
          rw [← this]; congr 1; rw [hsl]; simp; omega
        rw [e3]; exact this
      have hb0 : beginP s 0 = .bad s.length 11 := by
        unfold beginP; rw [hh]
        show bodyP s ps _ = _
        unfold bodyP
        rw [a1, if_neg (by decide), if_pos rfl, hu]
        simp only [ne_eq]
        rw [if_pos (by decide), quoL_len, hsl]
        congr 1
        omega
      exact parse_bad (nodeW_bad hb0)
set_option maxRecDepth 4000 in
theorem parse_byte {n : NT} (h : chkT n = 0) (b : UInt8) : parseL (txtT n ++ [b]) = (noT, (txtT n).length, 11) := parse_two h (by simp)

/-! How much there is in a tree. -/

mutual
def weighT : NT → Nat
  | .mk _ ps tx ks => 1 + tx.length + ps.length + weighK ks
def weighK : List NT → Nat
  | [] => 0
  | k :: r => weighT k + weighK r
end
set_option maxRecDepth 4000 in
mutual
theorem left_weigh : ∀ (n : NT) (m : Int), FitT n → chkT n = 0 → 0 ≤ m → m ≤ 1000 → (0 ≤ leftT m n → (weighT n : Int) ≤ m) ∧ ((weighT n : Int) ≤ m → leftT m n = m - weighT n)
  | .mk lf ps tx ks, m, hf, hc, h0, h1 => by
    obtain ⟨f1, f2, f3⟩ := hf
    obtain ⟨c1, c2⟩ := chkT_zero hc
    have hw : wrap64 (m - (1 + tx.length + ps.length)) = m - (1 + tx.length + ps.length) := wrap_id _ (by omega) (by omega)
    have hp : propsW (m - (1 + tx.length + ps.length)) ps = m - (1 + tx.length + ps.length) := propsW_small _ _ ⟨by omega, by omega⟩ (chk_small (oneE_zero c1))
    rw [leftT, hw, hp]
    split
    · rename_i hn
      simp only [weighT]
      exact ⟨fun h => by omega, fun h => by omega⟩
    · rename_i hn
      have := leftK_weigh ks (m - (1 + tx.length + ps.length)) f3 c2 (by omega) (by omega)
      simp only [weighT]
      exact ⟨fun h => by have := this.1 h; omega, fun h => by rw [this.2 (by omega)]; omega⟩
theorem leftK_weigh : ∀ (l : List NT) (m : Int), FitK l → chkK l = 0 → 0 ≤ m → m ≤ 1000 → (0 ≤ leftK m l → (weighK l : Int) ≤ m) ∧ ((weighK l : Int) ≤ m → leftK m l = m - weighK l)
  | [], m, _, _, _, _ => by simp [leftK, weighK]
  | k :: r, m, hf, hc, h0, h1 => by
    obtain ⟨c1, c2⟩ := chkK_zero hc
    have a := left_weigh k m hf.1 c1 h0 h1
    rw [leftK]
    simp only [weighK]
    split
    · rename_i hn
      refine ⟨fun h => by omega, fun h => ?_⟩
      have := a.2 (by omega)
      omega
    · rename_i hn
      have a1 := a.1 (by omega)
      have a2 := a.2 a1
      rw [a2]
      have b := leftK_weigh r (m - weighT k) hf.2 c2 (by omega) (by omega)
      exact ⟨fun h => by have := b.1 h; omega, fun h => by rw [b.2 (by omega)]; omega⟩
end
set_option maxRecDepth 4000 in
theorem few_of {n : NT} {m : Int} (hf : FitT n) (hc : chkT n = 0) (h0 : 0 ≤ m) (h1 : m ≤ 1000) (h : (weighT n : Int) ≤ m) : fewB m n = true := by
  unfold fewB
  rw [(left_weigh n m hf hc h0 h1).2 h]
  exact decide_eq_true (by omega)
set_option maxRecDepth 4000 in
theorem of_few {n : NT} {m : Int} (hf : FitT n) (hc : chkT n = 0) (h0 : 0 ≤ m) (h1 : m ≤ 1000) (h : fewB m n = true) : (weighT n : Int) ≤ m :=
  (left_weigh n m hf hc h0 h1).1 (of_decide_eq_true h)
set_option maxRecDepth 4000 in
theorem bodyL_ge' (l : List Int) : l.length ≤ (bodyL l).length := by
  induction l with
  | nil => simp
  | cons c l ih => rw [bodyL_cons, List.length_append, List.length_cons]; have := escL_pos c; omega
set_option maxRecDepth 4000 in
theorem prT_ge (a : UInt8) (l : List Pr) : l.length ≤ (prT a l).length := by
  induction l generalizing a with
  | nil => simp
  | cons p r ih => have := ih 44; simp [prT]; omega
set_option maxRecDepth 4000 in
theorem propsT_ge (l : List Pr) : l.length ≤ (propsT l).length := by
  cases l with
  | nil => simp
  | cons p r => have := prT_ge 123 (p :: r); rw [propsT, List.length_append]; omega
set_option maxRecDepth 4000 in
mutual
/-- What a text says is less than its bytes. -/
theorem weigh_txt : ∀ n : NT, chkT n = 0 → weighT n ≤ (txtT n).length
  | .mk lf ps tx ks, hc => by
    obtain ⟨c1, c2⟩ := chkT_zero hc
    obtain ⟨h1, h2, h3, h4⟩ := oneE_parts c1
    have hp := propsT_ge ps
    cases lf
    · have := h4 rfl
      subst this
      have := weighK_txt ks c2
      rw [txtT_elem]; simp only [weighT, List.length_nil]; omega
    · have : ks = [] := List.eq_nil_of_length_eq_zero (h3 rfl)
      subst this
      have := bodyL_ge' tx
      rw [txtT]; simp only [weighT, weighK, if_true, List.length_append, quoL_len]; omega
theorem weighK_txt : ∀ l : List NT, chkK l = 0 → weighK l ≤ (txtK l).length
  | [], _ => by simp [weighK]
  | k :: r, hc => by
    obtain ⟨c1, c2⟩ := chkK_zero hc
    have h1 := weigh_txt k c1
    have h2 := weighK_txt r c2
    simp only [weighK, txtK, List.length_append]; omega
end
set_option maxRecDepth 4000 in
mutual
theorem size_weigh : ∀ n : NT, sizeT n ≤ weighT n
  | .mk lf ps tx ks => by have := sizeK_weigh ks; simp only [sizeT, weighT]; omega
theorem sizeK_weigh : ∀ l : List NT, sizeK l ≤ weighK l
  | [] => by simp [sizeK]
  | k :: r => by have h1 := size_weigh k; have h2 := sizeK_weigh r; simp only [sizeK, weighK]; omega
end
set_option maxRecDepth 4000 in
/-- How long a text may be. -/
theorem prT_le (a : UInt8) (l : List Pr) (h : ∀ p ∈ l, keyB p.1 = true ∧ valB p.2 = true) : (prT a l).length ≤ 50 * l.length := by
  induction l generalizing a with
  | nil => simp [prT]
  | cons p r ih =>
    have h1 := ih 44 fun q hq => h q (List.mem_cons_of_mem _ hq)
    obtain ⟨k, v⟩ := h p (List.mem_cons_self ..)
    obtain ⟨_, k2, _⟩ := keyB_parts k
    obtain ⟨v1, _⟩ := valB_parts v
    have d1 := data_size p.1
    have d2 := data_size p.2
    simp only [prT, List.length_cons, List.length_append]
    omega
set_option maxRecDepth 4000 in
theorem chk_all {l : List Pr} (h : chk l = 0) : ∀ p ∈ l, keyB p.1 = true ∧ valB p.2 = true := by
  intro p hp
  obtain ⟨a, b, rfl⟩ := List.append_of_mem hp
  have e : a ++ p :: b = (a ++ [p]) ++ b := by simp
  rw [e] at h
  exact chk_last (chk_prefix h)
set_option maxRecDepth 4000 in
theorem propsT_le {l : List Pr} (h : chk l = 0) : (propsT l).length ≤ 50 * l.length + 1 := by
  cases l with
  | nil => simp [propsT]
  | cons p r => have := prT_le 123 (p :: r) (chk_all h); rw [propsT, List.length_append]; simp at this ⊢; omega
set_option maxRecDepth 4000 in
mutual
theorem txt_weigh : ∀ n : NT, chkT n = 0 → (txtT n).length ≤ 50 * weighT n
  | .mk lf ps tx ks, hc => by
    obtain ⟨c1, c2⟩ := chkT_zero hc
    obtain ⟨h1, h2, h3, h4⟩ := oneE_parts c1
    have hp := propsT_le h1
    cases lf
    · have := txtK_weigh ks c2
      rw [txtT_elem]; simp only [weighT]; omega
    · have : ks = [] := List.eq_nil_of_length_eq_zero (h3 rfl)
      subst this
      have := bodyL_len tx h2
      rw [txtT]; simp only [weighT, weighK, if_true, List.length_append, quoL_len]; omega
theorem txtK_weigh : ∀ l : List NT, chkK l = 0 → (txtK l).length ≤ 50 * weighK l
  | [], _ => by simp [txtK]
  | k :: r, hc => by
    obtain ⟨c1, c2⟩ := chkK_zero hc
    have h1 := txt_weigh k c1
    have h2 := txtK_weigh r c2
    simp only [weighK, txtK, List.length_append]; omega
end

end Go.Proofs.YtknkclbjocfhiaaDoor
