/- Lists of operations in memory; the document's FewAll. -/
import Derived.Test.YtdjajpookmmafaaBLive
namespace Go.Proofs.Ytdjajpookmmafaa
open Go.RowKit

/-- The cells of operations in a row. -/
def cellsO (cs : List OC) : List Value := cs.flatMap fun c => c.row.toList
set_option maxRecDepth 4000 in
theorem cellsO_len (cs : List OC) : (cellsO cs).length = cs.length * 21 := by
  induction cs with
  | nil => rfl
  | cons c r ih => rw [cellsO, List.flatMap_cons, List.length_append, ← cellsO, ih, List.length_cons]; show 21 + _ = _; omega
set_option maxRecDepth 4000 in
theorem cellsO_app (cs ds : List OC) : cellsO (cs ++ ds) = cellsO cs ++ cellsO ds := by simp [cellsO]
set_option maxRecDepth 4000 in
theorem cellsO_one (c : OC) : cellsO [c] = c.row.toList := by simp [cellsO]
set_option maxRecDepth 4000 in
theorem cellsO_at : ∀ {cs : List OC} {k : Nat} {c : OC}, cs[k]? = some c → ∀ j v, c.row.toList[j]? = some v → (cellsO cs)[k * 21 + j]? = some v
  | [], _, _, h, _, _, _ => by simp at h
  | d :: r, 0, c, h, j, v, hv => by
    simp only [List.getElem?_cons_zero, Option.some.injEq] at h
    subst h
    have hj := (List.getElem?_eq_some_iff.1 hv).1
    rw [cellsO, List.flatMap_cons, Nat.zero_mul, Nat.zero_add, List.getElem?_append_left hj]
    exact hv
  | d :: r, k + 1, c, h, j, v, hv => by
    rw [List.getElem?_cons_succ] at h
    have h2 := cellsO_at h j v hv
    rw [cellsO, List.flatMap_cons, List.getElem?_append_right (by show 21 ≤ _; omega), show (k + 1) * 21 + j - d.row.toList.length = k * 21 + j by show _ - 21 = _; omega]
    exact h2
set_option maxRecDepth 4000 in
theorem cellsO_all (cs : List OC) : ∀ u ∈ cellsO cs, u.oneCell' = true := fun u hu => by
  obtain ⟨c, _, hc⟩ := List.mem_flatMap.1 hu
  exact Array.all_eq_true'.1 c.one u (by simpa using hc)

/-- cs hold the operations us, in a row at A. -/
structure LO (w : World) (A : Option Addr) (cs : List OC) (us : List OpP) : Prop where
  hv : VL w w.heap.size A (cellsO cs)
  hl : cs.length = us.length
  ha : ∀ (k : Nat) (c : OC) (a : OpP), cs[k]? = some c → us[k]? = some a → OkA w c a
set_option maxRecDepth 4000 in
theorem LO.later {w w' : World} {A : Option Addr} {cs : List OC} {us : List OpP} (h : LO w A cs us) (hb : Below w.heap.size w w') : LO w' A cs us :=
  ⟨h.hv.later hb, h.hl, fun k c a h1 h2 => (h.ha k c a h1 h2).later hb⟩
set_option maxRecDepth 4000 in
theorem LO.nil (w : World) (A : Option Addr) : LO w A [] [] := ⟨VL.nil _ _ _, rfl, fun k c a h => by simp at h⟩
set_option maxRecDepth 4000 in
theorem LO.at_ {w : World} {A : Option Addr} {cs : List OC} {us : List OpP} (h : LO w A cs us) {k : Nat} (hk : k < us.length) :
    ∃ b o c a, A = some ⟨b, o, none⟩ ∧ b < w.heap.size ∧ cs[k]? = some c ∧ us[k]? = some a ∧ OkA w c a ∧ w.rangeAt b (o + k * 21) c.row.toList := by
  have hk2 : k < cs.length := by rw [h.hl]; exact hk
  have e1 : cs[k]? = some cs[k] := List.getElem?_eq_getElem hk2
  have e2 : us[k]? = some us[k] := List.getElem?_eq_getElem hk
  obtain ⟨b, o, e, hb, hc⟩ := h.hv (fun e => by have := cellsO_len cs; rw [e] at this; simp at this; omega)
  exact ⟨b, o, cs[k], us[k], e, hb, e1, e2, h.ha k _ _ e1 e2, fun j v hv => by rw [Nat.add_assoc]; exact hc _ _ (cellsO_at e1 j v hv)⟩
set_option maxRecDepth 4000 in
theorem wpList_load_el {ops : Array Oper} {rest : List Oper} {op : Oper} {a : Act} {w : World} {Q : Exit → Act → World → Prop} {g off : Nat} {c : OC} (h : w.rangeAt g off c.row.toList)
    (x : Operand) (ho : op.op = .load 35 x) (hgd : op.guard = none) (hx : a.eval x = .pointer (some ⟨g, off, none⟩)) (hk : wpList Try.prog ops Q rest (a.put op.dst (.agg c.row)) w) : wpList Try.prog ops Q (op :: rest) a w := by
  obtain ⟨d, h1, h2, h3⟩ := op_row
  exact wpList_load_mid hgd 35 x ho g off hx c.row.toList d h h1 h2 h3 hk
set_option maxRecDepth 4000 in
theorem exec_load_el {a : Act} {o : Oper} {W : World} {g off : Nat} {c : OC} (h : W.rangeAt g off c.row.toList) (x : Operand) (ho : o.op = .load 35 x) (hx : a.eval x = .pointer (some ⟨g, off, none⟩)) : (execOp a.eval o).run Try.prog W = .ok (.value (.agg c.row)) W := by
  obtain ⟨d, h1, h2, h3⟩ := op_row
  have hr := run_loadAt_mid W g off 35 c.row.toList d h h1 h2 h3
  unfold execOp
  simp only [Instr.loadAt, Instr.sureAddr, Sem.run_bind, Sem.run_pure, Result.andThen_ok] at hr
  simp only [ho, hx, Instr.loadAt, Instr.sureAddr, Sem.run_bind, Sem.run_pure, Result.andThen_ok, hr]

def fewAllO (us : List OpP) (m : Int) : Bool := us.all fewO && decide ((us.length : Int) ≤ m)
set_option maxRecDepth 4000 in
theorem few_not {us : List OpP} {k : Nat} {a : OpP} (m : Int) (h : us[k]? = some a) (hf : fewO a = false) : fewAllO us m = false := by
  unfold fewAllO
  rw [Bool.and_eq_false_iff]
  left
  rw [List.all_eq_false]
  exact ⟨a, List.mem_of_getElem? h, by simp [hf]⟩
set_option maxRecDepth 4000 in
theorem few_yes {us : List OpP} (m : Int) (h : ∀ (k : Nat) (a : OpP), us[k]? = some a → fewO a = true) : fewAllO us m = decide ((us.length : Int) ≤ m) := by
  unfold fewAllO
  rw [List.all_eq_true.2 (fun a ha => by obtain ⟨k, hk⟩ := List.getElem?_of_mem ha; exact h k a hk), Bool.true_and]

set_option maxRecDepth 100000 in
set_option maxHeartbeats 8000000 in
theorem fewall_at {w : World} {A : Option Addr} {cs : List OC} {us : List OpP} {n cap : Nat} (h : LO w A cs us) (hn : us.length = n) (h63 : n ≤ 9223372036854775807) (m : Int) : Calls Try.prog 16 #[.slice A n cap, .int .i64 m] w (Still (.bool (fewAllO us m)) w) := by
  have HL := hd h
  have HN := hd hn
  clear h hn
  go_enter Try.func16, Try.ntmps16
  go_wp2_with fail
  go_loopw [9] (fun i wr => ∃ k : Nat, k ≤ n ∧ i = .int .i64 k ∧ Hid (∀ (j : Nat) (a : OpP), j < k → us[j]? = some a → fewO a = true) ∧ Hid (Below w.heap.size w wr)) (fun i _ => n - (intOf i).toNat)
  case atStart => exact ⟨0, Nat.zero_le _, rfl, hd (fun j a hj => absurd hj (Nat.not_lt_zero _)), hd (Below.refl _ _)⟩
  case round =>
    obtain ⟨k, hk1, rfl, HA, HB⟩ := hrel
    by_cases hlt : k < n
    · obtain ⟨b, o, c, a, rfl, hb, hc, ha, hok, hrg⟩ := (HL.out.later HB.out).at_ (k := k) (by rw [HN.out]; exact hlt)
      have HO := hd hok
      have HR := hd hrg
      have HAk := hd ha
      clear hb hc ha hok hrg
      cases hf : fewO a
      · have HF := hd hf
        have HZ := hd (few_not m HAk.out hf)
        clear hf HA
        go_wp2_with (first
          | ((with_reducible refine gd_load (ty := 35) (x := .tmp 11) ?_); refine wpList_load_el HR.out _ rfl rfl rfl ?_)
          | ((with_reducible refine gd_store (ty := 35) (x := .tmp 6) ?_); refine wpList_store_oc (c := c) _ _ rfl rfl rfl rfl rfl rfl rfl ?_; have hb9 := new_below wr (.cells (OC.row c) 35); have HV := hd (VarO.new wr c); have HO := hd (HO.out.later hb9); have HB := hd (step_b HB.out hb9); clear hb9)
          | ((with_reducible refine gd_load (ty := 35) (x := .tmp 6) ?_); refine wpList_load_oc HV.out _ rfl rfl rfl ?_)
          | (go_at_call 10; refine Calls.mono (few_at HO.out HF.out) ?_; rintro e w2 ⟨rfl, b9⟩; have HB := hd (step_b HB.out b9); clear b9))
        go_ret
        exact ⟨by rw [HZ.out]; rfl, HB.out⟩
      · have HF := hd hf
        have HA2 := hd (show ∀ (j : Nat) (a : OpP), j < k + 1 → us[j]? = some a → fewO a = true from fun j x hj hx => by
          rcases Nat.lt_or_ge j k with h1 | h1
          · exact HA.out j x h1 hx
          · obtain rfl : j = k := by omega
            rw [HAk.out] at hx
            injection hx with hx
            subst hx
            exact hf)
        clear hf HA
        go_wp2_with (first
          | ((with_reducible refine gd_load (ty := 35) (x := .tmp 11) ?_); refine wpList_load_el HR.out _ rfl rfl rfl ?_)
          | ((with_reducible refine gd_store (ty := 35) (x := .tmp 6) ?_); refine wpList_store_oc (c := c) _ _ rfl rfl rfl rfl rfl rfl rfl ?_; have hb9 := new_below wr (.cells (OC.row c) 35); have HV := hd (VarO.new wr c); have HO := hd (HO.out.later hb9); have HB := hd (step_b HB.out hb9); clear hb9)
          | ((with_reducible refine gd_load (ty := 35) (x := .tmp 6) ?_); refine wpList_load_oc HV.out _ rfl rfl rfl ?_)
          | (go_at_call 10; refine Calls.mono (few_at HO.out HF.out) ?_; rintro e w2 ⟨rfl, b9⟩; have HB := hd (step_b HB.out b9); clear b9))
        go_roundw
        case rel => exact ⟨k + 1, by omega, by go_num, HA2, HB⟩
        case measure => simp [intOf]; omega
    · obtain rfl : k = n := by omega
      have HZ := hd (few_yes (us := us) m (fun j a hj => HA.out j a (by rw [← HN.out]; exact (List.getElem?_eq_some_iff.1 hj).1) hj))
      clear HA hk1 hlt
      go_wp2_with fail
      go_ret
      exact ⟨by rw [HZ.out, HN.out]; rfl, HB.out⟩

end Go.Proofs.Ytdjajpookmmafaa
