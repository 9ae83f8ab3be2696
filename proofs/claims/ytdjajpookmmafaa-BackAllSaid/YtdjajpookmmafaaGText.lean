/- Texts of runes, and strings that tell them, as plain lists: what each call answers. -/
namespace Go.Proofs.Ytdjajpookmmafaa

/-- Is the number a rune; a plain rune? -/
def isR (c : Int) : Bool := decide (0 ≤ c ∧ c ≤ 55295 ∨ 57344 ≤ c ∧ c ≤ 1114111)
def isP (c : Int) : Bool := decide (32 ≤ c ∧ c ≤ 126 ∧ c ≠ 34 ∧ c ≠ 92)
def okR (l : List Int) : Bool := l.all isR
def chkL (l : List Int) : Int := if okR l then 0 else 4
def sameL (l m : List Int) : Bool := decide (l = m)
def atL (l : List Int) (n : Nat) : Int := l.getD n 0

set_option maxRecDepth 4000 in
theorem isR_iff (c : Int) : isR c = true ↔ (0 ≤ c ∧ c ≤ 55295 ∨ 57344 ≤ c ∧ c ≤ 1114111) := by unfold isR; rw [decide_eq_true_iff]
set_option maxRecDepth 4000 in
theorem isP_iff (c : Int) : isP c = true ↔ (32 ≤ c ∧ c ≤ 126 ∧ c ≠ 34 ∧ c ≠ 92) := by unfold isP; rw [decide_eq_true_iff]
set_option maxRecDepth 4000 in
theorem isP_isR {c : Int} (h : isP c = true) : isR c = true := by rw [isP_iff] at h; rw [isR_iff]; omega
set_option maxRecDepth 4000 in
theorem atL_eq (l : List Int) (n : Nat) (h : n < l.length) : atL l n = l[n] := by unfold atL; simp [h]
set_option maxRecDepth 4000 in
theorem okR_iff (l : List Int) : okR l = true ↔ ∀ k, k < l.length → isR (atL l k) = true := by
  unfold okR
  rw [List.all_eq_true]
  constructor
  · intro h k hk
    rw [atL_eq l k hk]; exact h _ (List.getElem_mem hk)
  · intro h x hx
    obtain ⟨k, hk, rfl⟩ := List.mem_iff_getElem.1 hx
    have := h k hk
    rwa [atL_eq l k hk] at this
set_option maxRecDepth 4000 in
theorem okR_no {l : List Int} {k : Nat} (hk : k < l.length) (h : isR (atL l k) = false) : okR l = false := by
  cases hh : okR l
  · rfl
  · have := (okR_iff l).1 hh k hk
    rw [h] at this; cases this
set_option maxRecDepth 4000 in
theorem okR_append (l m : List Int) : okR (l ++ m) = (okR l && okR m) := by unfold okR; rw [List.all_append]
set_option maxRecDepth 4000 in
theorem okR_take {l : List Int} (h : okR l = true) (n : Nat) : okR (l.take n) = true := by
  unfold okR at *; rw [List.all_eq_true] at *; exact fun x hx => h x (List.mem_of_mem_take hx)
set_option maxRecDepth 4000 in
theorem okR_drop {l : List Int} (h : okR l = true) (n : Nat) : okR (l.drop n) = true := by
  unfold okR at *; rw [List.all_eq_true] at *; exact fun x hx => h x (List.mem_of_mem_drop hx)

/-- Put in, taken out, cut: the texts, and the error's number. -/
def insL (r : List Int) (p : Int) (s : List Int) : List Int × Int :=
  if okR r && okR s then if 0 ≤ p ∧ p ≤ r.length then (r.take p.toNat ++ (s ++ r.drop p.toNat), 0) else ([], 8) else ([], 4)
def remL (r : List Int) (p : Int) (s : List Int) : List Int × Int :=
  if okR r && okR s then if 0 ≤ p ∧ p ≤ r.length then if (r.drop p.toNat).take s.length = s then (r.take p.toNat ++ r.drop (p.toNat + s.length), 0) else ([], 9) else ([], 8) else ([], 4)
def cutL (r : List Int) (p : Int) : (List Int × List Int) × Int :=
  if okR r then if 0 ≤ p ∧ p ≤ r.length then ((r.take p.toNat, r.drop p.toNat), 0) else (([], []), 8) else (([], []), 4)
/-- What is wrong with every change. -/
def atE (r : List Int) (p : Int) (s : List Int) : Int := if okR r && okR s then if 0 ≤ p ∧ p ≤ r.length then 0 else 8 else 4

set_option maxRecDepth 4000 in
theorem rem_ins (r : List Int) (p : Int) (s l : List Int) (h : insL r p s = (l, 0)) : remL l p s = (r, 0) ∧ l.length = r.length + s.length := by
  unfold insL at h
  split at h
  · rename_i hk
    split at h
    · rename_i hp
      simp only [Prod.mk.injEq, and_true] at h
      subst h
      simp only [Bool.and_eq_true] at hk
      obtain ⟨n, hn⟩ : ∃ n, p.toNat = n := ⟨_, rfl⟩
      have hnl : n ≤ r.length := by omega
      have hl : (r.take n).length = n := by simp; omega
      rw [hn]
      have ok : okR (r.take n ++ (s ++ r.drop n)) = true := by
        rw [okR_append, okR_append, okR_take hk.1, okR_drop hk.1, hk.2]; rfl
      have e1 : (r.take n ++ (s ++ r.drop n)).drop n = s ++ r.drop n := by
        conv => lhs; arg 1; rw [← hl]
        rw [hl]; exact List.drop_left' hl
      have e2 : (r.take n ++ (s ++ r.drop n)).take n = r.take n := List.take_left' hl
      have e3 : (r.take n ++ (s ++ r.drop n)).drop (n + s.length) = r.drop n := by
        rw [← List.drop_drop, e1]; exact List.drop_left' rfl
      constructor
      · unfold remL
        rw [if_pos (by rw [ok, hk.2]; rfl), if_pos (by simp; omega), hn, e1, List.take_left' rfl, if_pos rfl, e2, e3, List.take_append_drop]
      · simp; omega
    · simp at h
  · simp at h
set_option maxRecDepth 4000 in
theorem ins_rem (r : List Int) (p : Int) (s l : List Int) (h : remL r p s = (l, 0)) : insL l p s = (r, 0) := by
  unfold remL at h
  split at h
  · rename_i hk
    split at h
    · rename_i hp
      split at h
      · rename_i hs
        simp only [Prod.mk.injEq, and_true] at h
        subst h
        simp only [Bool.and_eq_true] at hk
        obtain ⟨n, hn⟩ : ∃ n, p.toNat = n := ⟨_, rfl⟩
        rw [hn] at hs ⊢
        have hnl : n ≤ r.length := by omega
        have hl : (r.take n).length = n := by simp; omega
        have e1 : (r.take n ++ r.drop (n + s.length)).take n = r.take n := List.take_left' hl
        have e2 : (r.take n ++ r.drop (n + s.length)).drop n = r.drop (n + s.length) := List.drop_left' hl
        have e3 : s ++ r.drop (n + s.length) = r.drop n := by
          rw [← List.drop_drop]
          conv => lhs; arg 1; rw [← hs]
          exact List.take_append_drop _ _
        unfold insL
        rw [if_pos (by rw [okR_append, okR_take hk.1, okR_drop hk.1, hk.2]; rfl), if_pos (by simp; omega), hn, e1, e2, e3, List.take_append_drop]
      · simp at h
    · simp at h
  · simp at h
set_option maxRecDepth 4000 in
theorem insL_err (r : List Int) (p : Int) (s : List Int) (h : (insL r p s).2 ≠ 0) : (insL r p s).1 = [] := by
  unfold insL at *
  split at h <;> rename_i h1 <;> simp only [h1] at * <;> first | rfl | (split at h <;> rename_i h2 <;> simp only [h2] at * <;> first | rfl | simp at h)
set_option maxRecDepth 4000 in
theorem remL_err (r : List Int) (p : Int) (s : List Int) (h : (remL r p s).2 ≠ 0) : (remL r p s).1 = [] := by
  unfold remL at *
  split at h <;> rename_i h1 <;> simp only [h1] at * <;> first | rfl | (split at h <;> rename_i h2 <;> simp only [h2] at * <;> first | rfl | (split at h <;> rename_i h3 <;> simp only [h3] at * <;> first | rfl | simp at h))

/-- The digit of a number below 16; a number's hexadecimal digits. -/
def dg (n : Nat) : UInt8 := if n < 10 then UInt8.ofNat (48 + n) else UInt8.ofNat (87 + n)
def hexL (n : Nat) : List UInt8 := if n < 16 then [dg n] else hexL (n / 16) ++ [dg (n % 16)]
termination_by n
decreasing_by omega
/-- How one rune is written; how a text is. -/
def escL (c : Int) : List UInt8 := if isP c then [UInt8.ofNat c.toNat] else 92 :: (hexL c.toNat ++ [59])
def bodyL (l : List Int) : List UInt8 := l.flatMap escL
def quoL (l : List Int) : List UInt8 := 34 :: (bodyL l ++ [34])

/-- Is a byte a hexadecimal digit; which; the number that digits tell. -/
def isH (b : UInt8) : Bool := decide (48 ≤ b.toNat ∧ b.toNat ≤ 57 ∨ 97 ≤ b.toNat ∧ b.toNat ≤ 102)
def hval (b : UInt8) : Nat := if b.toNat ≤ 57 then b.toNat - 48 else b.toNat - 87
def val (l : List UInt8) : Nat := l.foldl (fun n b => n * 16 + hval b) 0
/-- The digits with which a string begins, six at most. -/
def run6 (s : List UInt8) : List UInt8 := (s.take 6).takeWhile isH
/-- Digits as they are written: no nought ahead. -/
def canon (d : List UInt8) : Bool := d.length == 1 || !(d.head? == some 48)
/-- What stands behind a backslash: the rune, and how many bytes it takes. -/
def escR (s : List UInt8) : Option (Nat × Nat) :=
  if run6 s ≠ [] ∧ s[(run6 s).length]? = some 59 ∧ canon (run6 s) = true ∧ isR (val (run6 s)) = true ∧ isP (val (run6 s)) = false then some (val (run6 s), (run6 s).length + 1) else none
/-- The rune with which a string begins, and how many bytes it takes: 0, if there is none. -/
def readL : List UInt8 → Int × Nat
  | [] => (0, 0)
  | b :: s => if b = 92 then (match escR s with | some (c, n) => ((c : Int), n + 1) | none => (0, 0)) else if isP b.toNat then (b.toNat, 1) else (0, 0)

set_option maxRecDepth 4000 in
theorem isH_iff (b : UInt8) : isH b = true ↔ (48 ≤ b.toNat ∧ b.toNat ≤ 57 ∨ 97 ≤ b.toNat ∧ b.toNat ≤ 102) := by unfold isH; rw [decide_eq_true_iff]
set_option maxRecDepth 4000 in
theorem dg_spec (n : Nat) (h : n < 16) : isH (dg n) = true ∧ hval (dg n) = n ∧ (dg n = 48 → n = 0) := by
  have : ∀ n : Fin 16, isH (dg n.val) = true ∧ hval (dg n.val) = n.val ∧ (dg n.val = 48 → n.val = 0) := by decide
  exact this ⟨n, h⟩
set_option maxRecDepth 4000 in
theorem dg_hval (b : UInt8) (h : isH b = true) : hval b < 16 ∧ dg (hval b) = b ∧ (hval b = 0 → b = 48) := by
  rw [isH_iff] at h
  have hb : b = UInt8.ofNat b.toNat := by simp
  obtain ⟨m, hm⟩ : ∃ m, m = b.toNat := ⟨_, rfl⟩
  rw [← hm] at h hb
  subst hb
  have h256 : m < 256 := by omega
  have ht : (UInt8.ofNat m).toNat = m := by simp; omega
  unfold hval dg
  rw [ht]
  by_cases h1 : m ≤ 57
  · rw [if_pos h1, if_pos (by omega)]
    refine ⟨by omega, by rw [show 48 + (m - 48) = m by omega], fun h0 => by rw [show m = 48 by omega]; rfl⟩
  · rw [if_neg h1, if_neg (by omega)]
    refine ⟨by omega, by rw [show 87 + (m - 87) = m by omega], fun h0 => by omega⟩

set_option maxRecDepth 4000 in
theorem hexL_lt (n : Nat) (h : n < 16) : hexL n = [dg n] := by rw [hexL, if_pos h]
set_option maxRecDepth 4000 in
theorem hexL_ge (n : Nat) (h : 16 ≤ n) : hexL n = hexL (n / 16) ++ [dg (n % 16)] := by rw [hexL, if_neg (by omega)]
set_option maxRecDepth 4000 in
theorem hexL_ne (n : Nat) : hexL n ≠ [] := by
  rw [hexL]; split <;> simp
set_option maxRecDepth 4000 in
theorem val_append (d : List UInt8) (b : UInt8) : val (d ++ [b]) = val d * 16 + hval b := by unfold val; rw [List.foldl_append]; rfl
set_option maxRecDepth 4000 in
theorem hexL_spec (n : Nat) : (∀ b ∈ hexL n, isH b = true) ∧ val (hexL n) = n ∧ ((hexL n).head? = some 48 → n = 0) := by
  induction n using Nat.strongRecOn with
  | _ n ih =>
    by_cases h : n < 16
    · rw [hexL_lt n h]
      obtain ⟨h1, h2, h3⟩ := dg_spec n h
      refine ⟨by simpa using h1, by simp [val, h2], by simpa using h3⟩
    · obtain ⟨i1, i2, i3⟩ := ih (n / 16) (by omega)
      obtain ⟨h1, h2, h3⟩ := dg_spec (n % 16) (by omega)
      rw [hexL_ge n (by omega)]
      refine ⟨fun b hb => ?_, ?_, fun hh => ?_⟩
      · rcases List.mem_append.1 hb with hb | hb
        · exact i1 b hb
        · rw [List.mem_singleton.1 hb]; exact h1
      · rw [val_append, i2, h2]; omega
      · have : (hexL (n / 16)).head? = some 48 := by
          cases hx : hexL (n / 16) with
          | nil => exact absurd hx (hexL_ne _)
          | cons a l => rw [hx] at hh; simpa using hh
        have := i3 this
        omega
set_option maxRecDepth 4000 in
theorem hexL_len (k n : Nat) (h : n < 16 ^ (k + 1)) : (hexL n).length ≤ k + 1 := by
  induction k generalizing n with
  | zero => rw [hexL_lt n (by simpa using h)]; simp
  | succ k ih =>
    by_cases h16 : n < 16
    · rw [hexL_lt n h16]; simp
    · rw [hexL_ge n (by omega)]
      have := ih (n / 16) (by
        rw [Nat.div_lt_iff_lt_mul (by omega)]
        rw [Nat.pow_succ] at h
        exact h)
      simp; omega
set_option maxRecDepth 4000 in
theorem hexL_six (n : Nat) (h : n ≤ 1114111) : (hexL n).length ≤ 6 := hexL_len 5 n (by omega)
set_option maxRecDepth 4000 in
theorem hexL_canon (n : Nat) : canon (hexL n) = true := by
  unfold canon
  obtain ⟨_, _, h3⟩ := hexL_spec n
  by_cases h : (hexL n).head? = some 48
  · have := h3 h
    subst this
    rw [hexL_lt 0 (by omega)]; rfl
  · simp [h]
set_option maxRecDepth 4000 in
theorem hexL_val (d : List UInt8) (h0 : d ≠ []) (h1 : ∀ b ∈ d, isH b = true) (h2 : canon d = true) : hexL (val d) = d := by
  obtain ⟨m, hm⟩ : ∃ m, m = d.length := ⟨_, rfl⟩
  induction m generalizing d with
  | zero => exact absurd (List.eq_nil_of_length_eq_zero hm.symm) h0
  | succ m ih =>
    rcases List.eq_nil_or_concat d with rfl | ⟨d', b, rfl⟩
    · exact absurd rfl h0
    · rw [List.concat_eq_append] at *
      obtain ⟨g1, g2, g3⟩ := dg_hval b (h1 b (by simp))
      rw [val_append]
      by_cases hd : d' = []
      · subst hd
        rw [show val [] = 0 from rfl, hexL_lt _ (by omega)]
        simp [g2]
      · have hl : d'.length = m := by simpa using hm.symm
        have hh : d'.head? ≠ some 48 := by
          intro hh
          unfold canon at h2
          have e1 : (d' ++ [b]).head? = some 48 := by
            cases d' with
            | nil => exact absurd rfl hd
            | cons a l => simpa using hh
          rw [e1] at h2
          simp at h2
          exact hd h2
        have hi := ih d' hd (fun x hx => h1 x (by simp [hx])) (by
          unfold canon; simp [hh]) hl.symm
        have hpos : 1 ≤ val d' := by
          rcases Nat.eq_zero_or_pos (val d') with hz | hz
          · rw [hz] at hi
            rw [hexL_lt 0 (by omega)] at hi
            exfalso; apply hh; rw [← hi]; rfl
          · exact hz
        rw [hexL_ge _ (by omega), show (val d' * 16 + hval b) / 16 = val d' by omega, show (val d' * 16 + hval b) % 16 = hval b by omega, hi, g2]

set_option maxRecDepth 4000 in
theorem mem_while (l : List UInt8) (b : UInt8) (h : b ∈ l.takeWhile isH) : isH b = true := by
  have := List.all_takeWhile (p := isH) (l := l)
  rw [List.all_eq_true] at this
  exact this b h
set_option maxRecDepth 4000 in
theorem takeWhile_stop (d rest : List UInt8) (h1 : ∀ b ∈ d, isH b = true) (h2 : ∀ b, rest.head? = some b → isH b = false) : (d ++ rest).takeWhile isH = d := by
  induction d with
  | nil =>
    cases rest with
    | nil => rfl
    | cons a l => simp [h2 a rfl]
  | cons a l ih =>
    rw [List.cons_append, List.takeWhile_cons, if_pos (h1 a (by simp)), ih fun b hb => h1 b (by simp [hb])]
set_option maxRecDepth 4000 in
theorem run6_stop (d rest : List UInt8) (hl : d.length ≤ 6) (h1 : ∀ b ∈ d, isH b = true) (h2 : d.length < 6 → ∀ b, rest.head? = some b → isH b = false) : run6 (d ++ rest) = d := by
  unfold run6
  rw [List.take_append, List.take_of_length_le hl]
  refine takeWhile_stop _ _ h1 fun b hb => ?_
  cases rest with
  | nil => simp at hb
  | cons a l =>
    by_cases h6 : d.length < 6
    · refine h2 h6 b ?_
      rw [show 6 - d.length = (5 - d.length) + 1 by omega] at hb
      simpa using hb
    · rw [show 6 - d.length = 0 by omega] at hb
      simp at hb
set_option maxRecDepth 4000 in
theorem isH_semi : isH 59 = false := by decide

set_option maxRecDepth 4000 in
/-- What was written is read. -/
theorem escR_hex (c : Nat) (rest : List UInt8) (hr : isR c = true) (hp : isP c = false) : escR (hexL c ++ 59 :: rest) = some (c, (hexL c).length + 1) := by
  have h6 : (hexL c).length ≤ 6 := hexL_six c (by rw [isR_iff] at hr; omega)
  obtain ⟨h1, h2, _⟩ := hexL_spec c
  have e : run6 (hexL c ++ 59 :: rest) = hexL c := run6_stop _ _ h6 h1 fun _ b hb => by
    have : b = 59 := by simpa using hb.symm
    rw [this]; exact isH_semi
  unfold escR
  rw [e, h2, if_pos ⟨hexL_ne c, by simp, hexL_canon c, hr, hp⟩]
set_option maxRecDepth 4000 in
/-- What is read was written so. -/
theorem escR_inv (s : List UInt8) (c n : Nat) (h : escR s = some (c, n)) : s.take n = hexL c ++ [59] ∧ isR c = true ∧ isP c = false ∧ n ≤ s.length ∧ n = (hexL c).length + 1 := by
  unfold escR at h
  split at h
  · rename_i hc
    obtain ⟨h0, h1, h2, h3, h4⟩ := hc
    simp only [Option.some.injEq, Prod.mk.injEq] at h
    obtain ⟨rfl, rfl⟩ := h
    have hH : ∀ b ∈ run6 s, isH b = true := fun b hb => mem_while _ b hb
    have hx := hexL_val (run6 s) h0 hH h2
    have hpre : run6 s <+: s := by
      unfold run6
      exact (List.takeWhile_prefix _).trans (List.take_prefix _ _)
    obtain ⟨t, ht⟩ := hpre
    have hlt : (run6 s).length < s.length := (List.getElem?_eq_some_iff.1 h1).1
    refine ⟨?_, h3, h4, by omega, by rw [hx]⟩
    rw [hx]
    obtain ⟨m, hm⟩ : ∃ m, m = (run6 s).length := ⟨_, rfl⟩
    have e1 : s.take m = run6 s := by
      rw [hm]; conv => lhs; arg 2; rw [← ht]
      exact List.take_left' rfl
    rw [← hm] at h1 hlt ⊢
    rw [List.take_add_one, h1, e1]
    rfl
  · cases h

set_option maxRecDepth 4000 in
theorem readL_cons (b : UInt8) (s : List UInt8) : readL (b :: s) = if b = 92 then (match escR s with | some (c, n) => ((c : Int), n + 1) | none => (0, 0)) else if isP b.toNat then ((b.toNat : Int), 1) else (0, 0) := rfl
set_option maxRecDepth 4000 in
theorem readL_esc (c : Int) (rest : List UInt8) (hr : isR c = true) : readL (escL c ++ rest) = (c, (escL c).length) := by
  have hb : 0 ≤ c ∧ c ≤ 1114111 := by rw [isR_iff] at hr; omega
  have hc : (c.toNat : Int) = c := by omega
  unfold escL
  by_cases hp : isP c = true
  · rw [if_pos hp]
    have hpp := (isP_iff c).1 hp
    have ht : (UInt8.ofNat c.toNat).toNat = c.toNat := by simp; omega
    have h92 : UInt8.ofNat c.toNat ≠ 92 := by
      intro e
      have := congrArg UInt8.toNat e
      rw [ht] at this
      have e92 : (92 : UInt8).toNat = 92 := rfl
      omega
    simp only [List.cons_append, List.nil_append, readL, if_neg h92, ht, hc, hp, if_true]
    rfl
  · have hp' : isP c = false := by simpa using hp
    rw [if_neg hp]
    simp only [List.cons_append, List.append_assoc, List.nil_append, readL, if_true]
    rw [escR_hex c.toNat rest (by rw [hc]; exact hr) (by rw [hc]; exact hp')]
    simp [hc]
set_option maxRecDepth 4000 in
theorem readL_inv (s : List UInt8) (c : Int) (n : Nat) (h : readL s = (c, n)) (hn : n ≠ 0) : isR c = true ∧ s.take n = escL c ∧ n = (escL c).length ∧ n ≤ s.length := by
  cases s with
  | nil => simp [readL] at h; omega
  | cons b s =>
    rw [readL_cons] at h
    split at h
    · rename_i hb
      subst hb
      cases he : escR s with
      | none => rw [he] at h; simp at h; omega
      | some x =>
        obtain ⟨c', n'⟩ := x
        rw [he] at h
        simp only [Prod.mk.injEq] at h
        obtain ⟨rfl, rfl⟩ := h
        obtain ⟨h1, h2, h3, h4, h5⟩ := escR_inv s c' n' he
        refine ⟨h2, ?_, ?_, by simp; omega⟩
        · unfold escL
          rw [h3]
          simp [h1]
        · unfold escL
          rw [h3]
          simp; omega
    · split at h
      · rename_i hb hp
        simp only [Prod.mk.injEq] at h
        obtain ⟨rfl, rfl⟩ := h
        refine ⟨isP_isR hp, ?_, ?_, by simp⟩
        · unfold escL; rw [if_pos hp]; simp
        · unfold escL; rw [if_pos hp]; rfl
      · simp at h; omega
set_option maxRecDepth 4000 in
theorem readL_le (s : List UInt8) : (readL s).2 ≤ s.length := by
  by_cases h : (readL s).2 = 0
  · omega
  · exact (readL_inv s (readL s).1 (readL s).2 rfl h).2.2.2
set_option maxRecDepth 4000 in
theorem escL_pos (c : Int) : 0 < (escL c).length := by unfold escL; split <;> simp
set_option maxRecDepth 4000 in
theorem escL_len (c : Int) (hr : isR c = true) : (escL c).length ≤ 8 := by
  unfold escL
  split
  · simp
  · have := hexL_six c.toNat (by rw [isR_iff] at hr; omega)
    simp; omega
set_option maxRecDepth 4000 in
theorem escL_head (c : Int) (rest : List UInt8) : ∃ b t, escL c ++ rest = b :: t ∧ b ≠ 34 := by
  unfold escL
  split
  · rename_i hp
    refine ⟨_, _, rfl, fun e => ?_⟩
    have hpp := (isP_iff c).1 hp
    have := congrArg UInt8.toNat e
    simp at this
    omega
  · exact ⟨92, _, rfl, by decide⟩
set_option maxRecDepth 4000 in
theorem bodyL_cons (c : Int) (l : List Int) : bodyL (c :: l) = escL c ++ bodyL l := rfl
set_option maxRecDepth 4000 in
theorem bodyL_append (l m : List Int) : bodyL (l ++ m) = bodyL l ++ bodyL m := by unfold bodyL; exact List.flatMap_append
set_option maxRecDepth 4000 in
theorem bodyL_len (l : List Int) (h : okR l = true) : (bodyL l).length ≤ 8 * l.length := by
  induction l with
  | nil => simp [bodyL]
  | cons c l ih =>
    unfold okR at h
    simp only [List.all_cons, Bool.and_eq_true] at h
    have := escL_len c h.1
    have := ih h.2
    rw [bodyL_cons]
    simp; omega

/-- What the loop of Unquote comes to, from the place p on, with out read so far: the text, the place, the error's number. -/
def unqA (s : List UInt8) (p : Nat) (out : List Int) : List Int × Int × Int :=
  match s with
  | [] => ([], p, 11)
  | b :: r => if b = 34 then (if r = [] then (out, 0, 0) else ([], ((p + 1 : Nat) : Int), 11))
      else if _h : (readL (b :: r)).2 = 0 then ([], p, 11) else unqA ((b :: r).drop (readL (b :: r)).2) (p + (readL (b :: r)).2) (out ++ [(readL (b :: r)).1])
termination_by s.length
decreasing_by simp; omega
def unqL : List UInt8 → List Int × Int × Int
  | [] => ([], 0, 11)
  | b :: r => if b = 34 then unqA r 1 [] else ([], 0, 11)

set_option maxRecDepth 4000 in
theorem unqA_nil (p : Nat) (out : List Int) : unqA [] p out = ([], (p : Int), 11) := by rw [unqA]
set_option maxRecDepth 4000 in
theorem unqA_last (p : Nat) (out : List Int) : unqA [34] p out = (out, 0, 0) := by rw [unqA]; simp
set_option maxRecDepth 4000 in
theorem unqA_more (s : List UInt8) (p : Nat) (out : List Int) (h : s ≠ []) : unqA (34 :: s) p out = ([], ((p + 1 : Nat) : Int), 11) := by rw [unqA]; simp [h]
set_option maxRecDepth 4000 in
theorem unqA_bad (b : UInt8) (r : List UInt8) (p : Nat) (out : List Int) (hb : b ≠ 34) (h : (readL (b :: r)).2 = 0) : unqA (b :: r) p out = ([], (p : Int), 11) := by
  rw [unqA, if_neg hb, dif_pos h]
set_option maxRecDepth 4000 in
theorem unqA_step (b : UInt8) (r : List UInt8) (p : Nat) (out : List Int) (hb : b ≠ 34) (c : Int) (n : Nat) (h : readL (b :: r) = (c, n)) (hn : n ≠ 0) :
    unqA (b :: r) p out = unqA ((b :: r).drop n) (p + n) (out ++ [c]) := by
  rw [unqA, if_neg hb, dif_neg (by rw [h]; exact hn), h]
set_option maxRecDepth 4000 in
/-- A text that is written is read, whatever stands behind it. -/
theorem unqA_body (l : List Int) (rest : List UInt8) (p : Nat) (out : List Int) (h : okR l = true) : unqA (bodyL l ++ rest) p out = unqA rest (p + (bodyL l).length) (out ++ l) := by
  induction l generalizing p out with
  | nil => simp [bodyL]
  | cons c l ih =>
    unfold okR at h
    simp only [List.all_cons, Bool.and_eq_true] at h
    have hr := readL_esc c (bodyL l ++ rest) h.1
    obtain ⟨b, t, e, hb⟩ := escL_head c (bodyL l ++ rest)
    rw [bodyL_cons, List.append_assoc]
    rw [e] at hr
    have hs := unqA_step b t p out hb _ _ hr (by have := escL_pos c; omega)
    rw [e, hs, ← e, List.drop_left' rfl, ih (p + (escL c).length) (out ++ [c]) h.2]
    simp [Nat.add_assoc]
set_option maxRecDepth 4000 in
/-- What is read was written so. -/
theorem unqA_inv (m : Nat) (s : List UInt8) (hm : s.length ≤ m) (p : Nat) (out x : List Int) (q : Int) (h : unqA s p out = (x, q, 0)) : ∃ l, x = out ++ l ∧ okR l = true ∧ q = 0 ∧ s = bodyL l ++ [34] := by
  induction m generalizing s p out with
  | zero =>
    have : s = [] := List.eq_nil_of_length_eq_zero (by omega)
    subst this
    rw [unqA_nil] at h; simp at h
  | succ m ih =>
    cases s with
    | nil => rw [unqA_nil] at h; simp at h
    | cons b r =>
      by_cases hb : b = 34
      · subst hb
        by_cases hr : r = []
        · subst hr
          rw [unqA_last] at h
          simp only [Prod.mk.injEq] at h
          exact ⟨[], by simp [h.1], rfl, by omega, rfl⟩
        · rw [unqA_more r p out hr] at h; simp at h
      · by_cases hn : (readL (b :: r)).2 = 0
        · rw [unqA_bad b r p out hb hn] at h; simp at h
        · obtain ⟨c, n, hc⟩ : ∃ c n, readL (b :: r) = (c, n) := ⟨_, _, rfl⟩
          rw [hc] at hn
          obtain ⟨i1, i2, i3, i4⟩ := readL_inv (b :: r) c n hc hn
          rw [unqA_step b r p out hb c n hc hn] at h
          obtain ⟨l, e1, e2, e3, e4⟩ := ih ((b :: r).drop n) (by simp only [List.length_drop]; simp at hm ⊢; omega) (p + n) (out ++ [c]) h
          refine ⟨c :: l, by rw [e1]; simp, ?_, e3, ?_⟩
          · unfold okR at *; simp [i1, e2]
          · rw [bodyL_cons, List.append_assoc, ← e4, ← i2, List.take_append_drop]
set_option maxRecDepth 4000 in
theorem unqA_err (m : Nat) (s : List UInt8) (hm : s.length ≤ m) (p : Nat) (out x : List Int) (q e : Int) (h : unqA s p out = (x, q, e)) (he : e ≠ 0) : x = [] ∧ e = 11 ∧ (p : Int) ≤ q ∧ q ≤ p + s.length := by
  induction m generalizing s p out with
  | zero =>
    have : s = [] := List.eq_nil_of_length_eq_zero (by omega)
    subst this
    rw [unqA_nil] at h
    simp only [Prod.mk.injEq] at h
    obtain ⟨rfl, rfl, rfl⟩ := h
    simp
  | succ m ih =>
    cases s with
    | nil =>
      rw [unqA_nil] at h
      simp only [Prod.mk.injEq] at h
      obtain ⟨rfl, rfl, rfl⟩ := h
      simp
    | cons b r =>
      by_cases hb : b = 34
      · subst hb
        by_cases hr : r = []
        · subst hr
          rw [unqA_last] at h
          simp only [Prod.mk.injEq] at h
          omega
        · rw [unqA_more r p out hr] at h
          simp only [Prod.mk.injEq] at h
          obtain ⟨rfl, rfl, rfl⟩ := h
          simp; omega
      · by_cases hn : (readL (b :: r)).2 = 0
        · rw [unqA_bad b r p out hb hn] at h
          simp only [Prod.mk.injEq] at h
          obtain ⟨rfl, rfl, rfl⟩ := h
          simp; omega
        · obtain ⟨c, n, hc⟩ : ∃ c n, readL (b :: r) = (c, n) := ⟨_, _, rfl⟩
          rw [hc] at hn
          obtain ⟨i1, i2, i3, i4⟩ := readL_inv (b :: r) c n hc hn
          rw [unqA_step b r p out hb c n hc hn] at h
          have := ih ((b :: r).drop n) (by simp only [List.length_drop]; simp at hm ⊢; omega) (p + n) (out ++ [c]) h
          simp only [List.length_drop] at this
          refine ⟨this.1, this.2.1, by omega, by omega⟩

set_option maxRecDepth 4000 in
theorem unqL_cons (b : UInt8) (r : List UInt8) : unqL (b :: r) = if b = 34 then unqA r 1 [] else ([], 0, 11) := rfl
set_option maxRecDepth 4000 in
theorem unqL_quo (l : List Int) (h : okR l = true) : unqL (quoL l) = (l, 0, 0) := by
  unfold unqL quoL
  simp only [if_true]
  rw [unqA_body l [34] 1 [] h, unqA_last]; simp
set_option maxRecDepth 4000 in
theorem unqL_inv (s : List UInt8) (x : List Int) (q : Int) (h : unqL s = (x, q, 0)) : okR x = true ∧ q = 0 ∧ s = quoL x := by
  cases s with
  | nil => simp [unqL] at h
  | cons b r =>
    unfold unqL at h
    by_cases hb : b = 34
    · subst hb
      simp only [if_true] at h
      obtain ⟨l, e1, e2, e3, e4⟩ := unqA_inv r.length r (Nat.le_refl _) 1 [] x q h
      simp at e1
      subst e1
      exact ⟨e2, e3, by unfold quoL; rw [e4]⟩
    · simp [hb] at h
set_option maxRecDepth 4000 in
theorem unqL_err (s : List UInt8) (x : List Int) (q e : Int) (h : unqL s = (x, q, e)) (he : e ≠ 0) : x = [] ∧ e = 11 ∧ 0 ≤ q ∧ q ≤ s.length := by
  cases s with
  | nil =>
    simp [unqL] at h
    obtain ⟨rfl, rfl, rfl⟩ := h
    simp
  | cons b r =>
    unfold unqL at h
    by_cases hb : b = 34
    · subst hb
      simp only [if_true] at h
      have := unqA_err r.length r (Nat.le_refl _) 1 [] x q e h he
      refine ⟨this.1, this.2.1, by omega, by simp only [List.length_cons]; omega⟩
    · simp [hb] at h
      obtain ⟨rfl, rfl, rfl⟩ := h
      simp; omega
set_option maxRecDepth 4000 in
theorem quoL_len (l : List Int) : (quoL l).length = (bodyL l).length + 2 := by unfold quoL; simp
set_option maxRecDepth 4000 in
theorem unqL_more (l : List Int) (b : UInt8) (h : okR l = true) : unqL (quoL l ++ [b]) = ([], ((quoL l).length : Int), 11) := by
  have e : quoL l ++ [b] = 34 :: (bodyL l ++ (34 :: [b])) := by unfold quoL; simp
  rw [e]
  unfold unqL
  simp only [if_true]
  rw [unqA_body l _ 1 [] h, unqA_more _ _ _ (by simp), quoL_len]
  simp; omega
set_option maxRecDepth 4000 in
theorem unqL_less (l : List Int) (h : okR l = true) : unqL ((quoL l).take ((quoL l).length - 1)) = ([], ((quoL l).length : Int) - 1, 11) := by
  have e : (quoL l).take ((quoL l).length - 1) = 34 :: bodyL l := by
    rw [quoL_len]
    have : quoL l = (34 :: bodyL l) ++ [34] := rfl
    rw [this]
    exact List.take_left' (by simp)
  rw [e]
  unfold unqL
  simp only [if_true]
  have := unqA_body l [] 1 [] h
  rw [List.append_nil] at this
  rw [this, unqA_nil, quoL_len]
  simp; omega
set_option maxRecDepth 4000 in
theorem unqL_with (l : List Int) (b : UInt8) : unqL (b :: quoL l) = ([], if b = 34 then 2 else 0, 11) := by
  rw [unqL_cons]
  by_cases hb : b = 34
  · rw [if_pos hb, if_pos hb]
    unfold quoL
    rw [unqA_more _ _ _ (by simp)]
    rfl
  · rw [if_neg hb, if_neg hb]

end Go.Proofs.Ytdjajpookmmafaa
