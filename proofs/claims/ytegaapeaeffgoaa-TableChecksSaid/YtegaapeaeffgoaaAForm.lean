/- The program's forms: an action, a row whose types rise, a rule by itself. -/
import Derived.Test.YtegaapeaeffgoaaJASeek
namespace Go.Proofs.Ytegaapeaeffgoaa
open Go.RowKit

theorem isname_still {s : Nm} (hs : FitN1 s) {E : Bool} (hE : nameT s = E) (w : World) : Calls Try.prog 57 #[.string s] w (Still (.bool E) w) :=
  (isname_any hs hE w).mono fun _ _ ⟨h1, h2⟩ => ⟨h1, h2 ▸ Below.refl _ _⟩
def formL (a : ActT) (lf : Bool) : Bool := formT a && (!lf || a.act != 3)
set_option maxRecDepth 4000 in
set_option maxHeartbeats 4000000 in
theorem formact_any {a : ActT} (hs : FitN1 a.ty) (lf : Bool) {E : Bool} (hE : formL a lf = E) (w : World) : Calls Try.prog 61 #[.agg #[.int .i64 a.act, .string a.ty], .bool lf] w (Still (.bool E) w) := by
  obtain ⟨n, s⟩ := a
  have hb1 : Below w.heap.size w (w.alloc (.cells #[.int .i64 n, .string s] 24)) := (Below.refl _ _).alloc (Nat.le_refl _) _
  obtain ⟨v, hv⟩ : ∃ v, nameT s = v := ⟨_, rfl⟩
  have HV := hd hv
  have HS := hd (show FitN1 s from hs)
  have HE := hd hE
  have HB := hd hb1
  have hem : (emptyN s = true ∧ s.toList = [] ∧ s.toList.isEmpty = true) ∨ (emptyN s = false ∧ s.toList ≠ [] ∧ s.toList.isEmpty = false) := by
    unfold emptyN
    cases h : s.toList with
    | nil => exact .inl ⟨rfl, rfl, rfl⟩
    | cons x l => exact .inr ⟨rfl, by simp, rfl⟩
  clear hv hs hE hb1
  by_cases h4 : n = 4
  · subst h4
    clear hem
    go_enter Try.func61, Try.ntmps61
    go_wp2_with (go_at_call 57; refine (isname_any HS.out HV.out _).mono ?_; rintro e w1 ⟨rfl, rfl⟩)
    go_ret
    exact ⟨ret_bool (by rw [← HE.out, formL, formT, if_pos rfl, HV.out]; simp), HB.out⟩
  · have e4 : (n == 4) = false := by simpa using h4
    by_cases h3 : n = 3
    · subst h3
      cases lf
      · rcases hem with ⟨z, h0, h1⟩ | ⟨z, h0, h1⟩
        · have HZ := hd z
          clear z
          go_enter Try.func61, Try.ntmps61
          go_wp2_with fail
          go_ret
          exact ⟨ret_bool (by rw [← HE.out, formL, formT, if_neg h4, HZ.out]; simp), HB.out⟩
        · have HZ := hd z
          clear z
          go_enter Try.func61, Try.ntmps61
          go_wp2_with fail
          go_ret
          exact ⟨ret_bool (by rw [← HE.out, formL, formT, if_neg h4, HZ.out]; simp), HB.out⟩
      · clear hem
        go_enter Try.func61, Try.ntmps61
        go_wp2_with fail
        go_ret
        exact ⟨ret_bool (by rw [← HE.out, formL]; simp), HB.out⟩
    · have e3 : (n == 3) = false := by simpa using h3
      by_cases h1 : n = 1
      · subst h1
        rcases hem with ⟨z, h0, h1⟩ | ⟨z, h0, h1⟩
        · have HZ := hd z
          clear z
          go_enter Try.func61, Try.ntmps61
          go_wp2_with fail
          go_ret
          exact ⟨ret_bool (by rw [← HE.out, formL, formT, if_neg h4, HZ.out]; simp), HB.out⟩
        · have HZ := hd z
          clear z
          go_enter Try.func61, Try.ntmps61
          go_wp2_with fail
          go_ret
          exact ⟨ret_bool (by rw [← HE.out, formL, formT, if_neg h4, HZ.out]; simp), HB.out⟩
      · have e1 : (n == 1) = false := by simpa using h1
        by_cases h2 : n = 2
        · subst h2
          rcases hem with ⟨z, h0, h1⟩ | ⟨z, h0, h1⟩
          · have HZ := hd z
            clear z
            go_enter Try.func61, Try.ntmps61
            go_wp2_with fail
            go_ret
            exact ⟨ret_bool (by rw [← HE.out, formL, formT, if_neg h4, HZ.out]; simp), HB.out⟩
          · have HZ := hd z
            clear z
            go_enter Try.func61, Try.ntmps61
            go_wp2_with fail
            go_ret
            exact ⟨ret_bool (by rw [← HE.out, formL, formT, if_neg h4, HZ.out]; simp), HB.out⟩
        · have e2 : (n == 2) = false := by simpa using h2
          clear hem
          go_enter Try.func61, Try.ntmps61
          go_wp2_with fail
          go_ret
          exact ⟨ret_bool (by rw [← HE.out, formL, formT, if_neg h4]; simp; intros; omega), HB.out⟩
set_option maxRecDepth 100000 in
set_option maxHeartbeats 4000000 in
theorem form1_any (p : PairT) (hf : FitN1 p.act.ty) {E : Bool} (hE : formT p.act = E) (w : World) : Calls Try.prog 63 #[.agg p.row] w (Still (.bool (!E)) w) := by
  obtain ⟨pty, ⟨pa, pat⟩⟩ := p
  have hb : Below w.heap.size w (w.alloc (.cells (PairT.mk pty ⟨pa, pat⟩).row 52)) := (Below.refl _ _).alloc (Nat.le_refl _) _
  have hv := VarR.new w 52 (PairT.mk pty ⟨pa, pat⟩).row
  obtain ⟨W0, hW⟩ : ∃ W0, w.alloc (.cells (PairT.mk pty ⟨pa, pat⟩).row 52) = W0 := ⟨_, rfl⟩
  rw [hW] at hb hv
  have HW := hd hW
  have HB := hd hb
  have HV := hd hv
  have HC := hd (formact_any (a := ⟨pa, pat⟩) hf false (E := E) (by rw [← hE]; simp [formL]) W0)
  clear hW hb hv hE hf
  go_enter Try.func63, Try.ntmps63
  go_upto_region 1 with fail
  rw [HW.out]
  go_wp2_with (first
    | ((with_reducible refine gd_load (ty := 24) (x := .tmp 3) ?_); refine wpList_load_at rowT_act (r := #[.int .i64 pa, .string pat]) (HV.out.two 1 rfl rfl) rfl _ rfl rfl rfl ?_)
    | (go_at_call 61; refine HC.out.mono ?_; rintro e9 w1 ⟨rfl, b9⟩; have HB := hd (step_b HB.out b9); clear b9))
  go_ret
  exact ⟨rfl, HB.out⟩

/-- Types that rise, told by a row of types. -/
def stepR (t : Nat → Nm) (i : Nat) : Bool := nameT (t i) && !(decide (0 < i) && leB (t i) (t (i - 1)))
def riseT (t : Nat → Nm) (n : Nat) : Bool := (List.range n).all (stepR t)
set_option maxRecDepth 4000 in
theorem rise_fails {t : Nat → Nm} {n k : Nat} (hk : k < n) (h : stepR t k = false) : riseT t n = false := by
  cases e : riseT t n
  · rfl
  · have := List.all_eq_true.1 e k (List.mem_range.2 hk)
    rw [h] at this; cases this
set_option maxRecDepth 4000 in
theorem rise_all {t : Nat → Nm} {n : Nat} (h : ∀ j, j < n → stepR t j = true) : riseT t n = true := List.all_eq_true.2 fun j hj => h j (List.mem_range.1 hj)
set_option maxRecDepth 100000 in
set_option maxHeartbeats 8000000 in
theorem rise_pair {w : World} {A : Option Addr} {n c : Nat} (q : Nat → PairT) (hR : RowA w A n 3 (fun k => PairT.row (q k))) (hf : ∀ k, k < n → FitN1 (q k).ty) (hn : n ≤ 9223372036854775807) {E : Bool} (hE : (decide (n ≤ 32) && riseT (fun k => (q k).ty) n) = E) :
    Calls Try.prog 60 #[.slice A n c, .func (.func 31) #[] #[]] w (Still (.bool E) w) := by
  by_cases h32 : (32 : Int) < (n : Int)
  · have HE := hd hE
    clear hE hR
    go_enter Try.func60, Try.ntmps60
    go_wp2_with fail
    go_ret
    exact ⟨ret_bool (by rw [← HE.out, dec_no (show ¬ n ≤ 32 by omega)]; rfl), Below.refl _ _⟩
  · have HE := hd (show riseT (fun k => (q k).ty) n = E by rw [← hE, decide_eq_true (show n ≤ 32 by omega)]; rfl)
    have HR := hd hR
    have HF := hd hf
    have hn32 : n ≤ 32 := by omega
    clear hE hR hf
    go_enter Try.func60, Try.ntmps60
    go_wp2_with fail
    go_loopw [12] (fun i wr => ∃ k : Nat, k ≤ n ∧ i = .int .i64 k ∧ Hid (∀ j, j < k → stepR (fun k => (q k).ty) j = true) ∧ Hid (Below w.heap.size w wr)) (fun i _ => n - (intOf i).toNat)
    case atStart => exact ⟨0, Nat.zero_le _, rfl, hd (fun j hj => absurd hj (Nat.not_lt_zero _)), hd (Below.refl _ _)⟩
    case round =>
      obtain ⟨k, hk1, rfl, HA, HB⟩ := hrel
      by_cases hlt : k < n
      · obtain ⟨b, o, rfl, hbl, hr⟩ := (HR.out.later HB.out).2 k hlt
        have HRG := hd hr
        have HBL := hd hbl
        obtain ⟨W1, hW1⟩ : ∃ W1, wr.alloc (.cells (PairT.row (q k)) 52) = W1 := ⟨_, rfl⟩
        have hb1 : Below wr.heap.size wr W1 := hW1 ▸ (Below.refl _ _).alloc (Nat.le_refl _) _
        have hv1 : VarR 52 W1 wr.heap.size (PairT.row (q k)) := hW1 ▸ VarR.new wr 52 (PairT.row (q k))
        have HW1 := hd hW1
        have HB1 := hd hb1
        have HV := hd (later_row hv1)
        have HFK := hd (HF.out k hlt)
        clear hr hbl hW1 hb1 hv1
        cases hnm : nameT (q k).ty
        · have HX := hd (HE.out.symm.trans (rise_fails (t := fun k => (q k).ty) hlt (by show (nameT (q k).ty && _) = false; rw [hnm]; rfl)))
          have HNM := hd hnm
          clear hnm HA
          go_wp2_with (first
            | ((with_reducible refine gd_load (ty := 52) (x := .tmp 15) ?_); refine wpList_load_at rowT_pair (r := PairT.row (q k)) HRG.out rfl _ rfl rfl rfl ?_)
            | ((with_reducible refine gd_store (ty := 52) (x := .tmp 6) ?_); refine wpList_store_new rowT_pair (r := PairT.row (q k)) rfl rfl (PairT.one _) _ _ rfl rfl rfl rfl rfl rfl ?_))
          go_upto_region 6 with fail
          rw [HW1.out]
          refine wp_region_later W1.heap.size (by kernel_rfl) (by kernel_rfl) ?_
          repeat (first
            | (go_big_quiet_want; (with_reducible refine gq_load (ty := 52) (x := .tmp 6) ?_); refine quiet_load rowT_pair (r := PairT.row (q k)) HV.out rfl _ rfl rfl ?_; go_big_quiet_on; simp only [Act.put, List.setIfInBounds_toArray, List.set_cons_succ, List.set_cons_zero])
            | go_big_quiet_step (first
                | (go_at_call 31; exact later_in (Nat.le_refl _) (ofpair_any _ _))
                | (go_at_call 57; exact later_in (Nat.le_refl _) (isname_still HFK.out HNM.out _))))
          refine wpQuiet_nil ?_
          intro w9 hu
          obtain ⟨⟨w10, hw10⟩, hw9⟩ := hu
          have e9 : w10 = w9 := hw9.symm
          subst e9
          have HB := hd (step_b (step_b HB.out HB1.out) hw10)
          clear hw9 hw10 HV
          go_wp2_with fail
          go_ret
          exact ⟨ret_bool HX.out.symm, HB.out⟩
        · have HNM := hd hnm
          by_cases h0 : 0 < k
          · obtain ⟨b', o', e', hbl', hr'⟩ := (HR.out.later HB.out).2 (k - 1) (by omega)
            obtain ⟨rfl, rfl⟩ : b = b' ∧ o = o' := by simpa using e'
            have HV2 := hd (later_range (rangeAt_later hr' hbl' HB1.out) (Nat.lt_of_lt_of_le hbl' HB1.out.size))
            have h0i : (0 : Int) < (k : Int) := by omega
            clear e' hr' hbl'
            cases hle : (Op.bytesLess (q k).ty.toList (q (k - 1)).ty.toList || (q k).ty.toList == (q (k - 1)).ty.toList)
            · have HX := one_more (p := fun j => stepR (fun k => (q k).ty) j = true) HA (by show (nameT (q k).ty && !(_ && leB (q k).ty (q (k - 1)).ty)) = true; unfold leB; rw [hnm, hle]; simp)
              clear hnm HA
              go_wp2_with (first
                | ((with_reducible refine gd_load (ty := 52) (x := .tmp 15) ?_); refine wpList_load_at rowT_pair (r := PairT.row (q k)) HRG.out rfl _ rfl rfl rfl ?_)
                | ((with_reducible refine gd_store (ty := 52) (x := .tmp 6) ?_); refine wpList_store_new rowT_pair (r := PairT.row (q k)) rfl rfl (PairT.one _) _ _ rfl rfl rfl rfl rfl rfl ?_))
              go_upto_region 6 with fail
              rw [HW1.out]
              refine wp_region_later W1.heap.size (by kernel_rfl) (by kernel_rfl) ?_
              repeat (first
                | (go_big_quiet_want; (with_reducible refine gq_load (ty := 52) (x := .tmp 6) ?_); refine quiet_load rowT_pair (r := PairT.row (q k)) HV.out rfl _ rfl rfl ?_; go_big_quiet_on; simp only [Act.put, List.setIfInBounds_toArray, List.set_cons_succ, List.set_cons_zero])
                | (go_big_quiet_want; (with_reducible refine gq_load (ty := 52) (x := .tmp 33) ?_); refine quiet_load rowT_pair (r := PairT.row (q (k - 1))) HV2.out rfl _ rfl rfl ?_; go_big_quiet_on; simp only [Act.put, List.setIfInBounds_toArray, List.set_cons_succ, List.set_cons_zero])
                | go_big_quiet_step (first
                    | (go_at_call 31; exact later_in (Nat.le_refl _) (ofpair_any _ _))
                    | (go_at_call 57; exact later_in (Nat.le_refl _) (isname_still HFK.out HNM.out _))))
              refine wpQuiet_nil ?_
              intro w9 hu
              obtain ⟨⟨w10, hw10⟩, hw9⟩ := hu
              have e9 : w10 = w9 := hw9.symm
              subst e9
              have HB := hd (step_b (step_b HB.out HB1.out) hw10)
              clear hw9 hw10 HV HV2
              go_wp2_with fail
              go_roundw
              case rel => exact ⟨k + 1, by omega, by go_num, HX, HB⟩
              case measure => simp [intOf]; omega
            · have HX := hd (HE.out.symm.trans (rise_fails (t := fun k => (q k).ty) hlt (by show (nameT (q k).ty && !(decide (0 < k) && leB (q k).ty (q (k - 1)).ty)) = false; unfold leB; rw [hnm, hle, decide_eq_true h0]; rfl)))
              clear hnm HA
              go_wp2_with (first
                | ((with_reducible refine gd_load (ty := 52) (x := .tmp 15) ?_); refine wpList_load_at rowT_pair (r := PairT.row (q k)) HRG.out rfl _ rfl rfl rfl ?_)
                | ((with_reducible refine gd_store (ty := 52) (x := .tmp 6) ?_); refine wpList_store_new rowT_pair (r := PairT.row (q k)) rfl rfl (PairT.one _) _ _ rfl rfl rfl rfl rfl rfl ?_))
              go_upto_region 6 with fail
              rw [HW1.out]
              refine wp_region_later W1.heap.size (by kernel_rfl) (by kernel_rfl) ?_
              repeat (first
                | (go_big_quiet_want; (with_reducible refine gq_load (ty := 52) (x := .tmp 6) ?_); refine quiet_load rowT_pair (r := PairT.row (q k)) HV.out rfl _ rfl rfl ?_; go_big_quiet_on; simp only [Act.put, List.setIfInBounds_toArray, List.set_cons_succ, List.set_cons_zero])
                | (go_big_quiet_want; (with_reducible refine gq_load (ty := 52) (x := .tmp 33) ?_); refine quiet_load rowT_pair (r := PairT.row (q (k - 1))) HV2.out rfl _ rfl rfl ?_; go_big_quiet_on; simp only [Act.put, List.setIfInBounds_toArray, List.set_cons_succ, List.set_cons_zero])
                | go_big_quiet_step (first
                    | (go_at_call 31; exact later_in (Nat.le_refl _) (ofpair_any _ _))
                    | (go_at_call 57; exact later_in (Nat.le_refl _) (isname_still HFK.out HNM.out _))))
              refine wpQuiet_nil ?_
              intro w9 hu
              obtain ⟨⟨w10, hw10⟩, hw9⟩ := hu
              have e9 : w10 = w9 := hw9.symm
              subst e9
              have HB := hd (step_b (step_b HB.out HB1.out) hw10)
              clear hw9 hw10 HV HV2
              go_wp2_with fail
              go_ret
              exact ⟨ret_bool HX.out.symm, HB.out⟩
          · have h0i : decide ((0 : Int) < (k : Int)) = false := dec_no (by omega)
            have HX := one_more (p := fun j => stepR (fun k => (q k).ty) j = true) HA (by show (nameT (q k).ty && !(decide (0 < k) && _)) = true; rw [hnm, dec_no h0]; rfl)
            clear hnm HA
            go_wp2_with (first
              | ((with_reducible refine gd_load (ty := 52) (x := .tmp 15) ?_); refine wpList_load_at rowT_pair (r := PairT.row (q k)) HRG.out rfl _ rfl rfl rfl ?_)
              | ((with_reducible refine gd_store (ty := 52) (x := .tmp 6) ?_); refine wpList_store_new rowT_pair (r := PairT.row (q k)) rfl rfl (PairT.one _) _ _ rfl rfl rfl rfl rfl rfl ?_))
            go_upto_region 6 with fail
            rw [HW1.out]
            refine wp_region_later W1.heap.size (by kernel_rfl) (by kernel_rfl) ?_
            repeat (first
              | (go_big_quiet_want; (with_reducible refine gq_load (ty := 52) (x := .tmp 6) ?_); refine quiet_load rowT_pair (r := PairT.row (q k)) HV.out rfl _ rfl rfl ?_; go_big_quiet_on; simp only [Act.put, List.setIfInBounds_toArray, List.set_cons_succ, List.set_cons_zero])
              | go_big_quiet_step (first
                  | (go_at_call 31; exact later_in (Nat.le_refl _) (ofpair_any _ _))
                  | (go_at_call 57; exact later_in (Nat.le_refl _) (isname_still HFK.out HNM.out _))))
            refine wpQuiet_nil ?_
            intro w9 hu
            obtain ⟨⟨w10, hw10⟩, hw9⟩ := hu
            have e9 : w10 = w9 := hw9.symm
            subst e9
            have HB := hd (step_b (step_b HB.out HB1.out) hw10)
            clear hw9 hw10 HV
            go_wp2_with fail
            go_roundw
            case rel => exact ⟨k + 1, by omega, by go_num, HX, HB⟩
            case measure => simp [intOf]; omega
      · obtain rfl : k = n := by omega
        have HX := hd (HE.out.symm.trans (rise_all HA.out))
        go_wp2_with fail
        go_ret
        exact ⟨ret_bool HX.out.symm, HB.out⟩
set_option maxRecDepth 100000 in
set_option maxHeartbeats 8000000 in
theorem rise_rule {w : World} {A : Option Addr} {n c : Nat} (q : Nat → RuC) (hR : RowA w A n 8 (fun k => RuC.row (q k))) (hf : ∀ k, k < n → FitN1 (q k).ty) (hn : n ≤ 9223372036854775807) {E : Bool} (hE : (decide (n ≤ 32) && riseT (fun k => (q k).ty) n) = E) :
    Calls Try.prog 35 #[.slice A n c, .func (.func 36) #[] #[]] w (Still (.bool E) w) := by
  by_cases h32 : (32 : Int) < (n : Int)
  · have HE := hd hE
    clear hE hR
    go_enter Try.func35, Try.ntmps35
    go_wp2_with fail
    go_ret
    exact ⟨ret_bool (by rw [← HE.out, dec_no (show ¬ n ≤ 32 by omega)]; rfl), Below.refl _ _⟩
  · have HE := hd (show riseT (fun k => (q k).ty) n = E by rw [← hE, decide_eq_true (show n ≤ 32 by omega)]; rfl)
    have HR := hd hR
    have HF := hd hf
    have hn32 : n ≤ 32 := by omega
    clear hE hR hf
    go_enter Try.func35, Try.ntmps35
    go_wp2_with fail
    go_loopw [12] (fun i wr => ∃ k : Nat, k ≤ n ∧ i = .int .i64 k ∧ Hid (∀ j, j < k → stepR (fun k => (q k).ty) j = true) ∧ Hid (Below w.heap.size w wr)) (fun i _ => n - (intOf i).toNat)
    case atStart => exact ⟨0, Nat.zero_le _, rfl, hd (fun j hj => absurd hj (Nat.not_lt_zero _)), hd (Below.refl _ _)⟩
    case round =>
      obtain ⟨k, hk1, rfl, HA, HB⟩ := hrel
      by_cases hlt : k < n
      · obtain ⟨b, o, rfl, hbl, hr⟩ := (HR.out.later HB.out).2 k hlt
        have HRG := hd hr
        have HBL := hd hbl
        obtain ⟨W1, hW1⟩ : ∃ W1, wr.alloc (.cells (RuC.row (q k)) 27) = W1 := ⟨_, rfl⟩
        have hb1 : Below wr.heap.size wr W1 := hW1 ▸ (Below.refl _ _).alloc (Nat.le_refl _) _
        have hv1 : VarR 27 W1 wr.heap.size (RuC.row (q k)) := hW1 ▸ VarR.new wr 27 (RuC.row (q k))
        have HW1 := hd hW1
        have HB1 := hd hb1
        have HV := hd (later_row hv1)
        have HFK := hd (HF.out k hlt)
        clear hr hbl hW1 hb1 hv1
        cases hnm : nameT (q k).ty
        · have HX := hd (HE.out.symm.trans (rise_fails (t := fun k => (q k).ty) hlt (by show (nameT (q k).ty && _) = false; rw [hnm]; rfl)))
          have HNM := hd hnm
          clear hnm HA
          go_wp2_with (first
            | ((with_reducible refine gd_load (ty := 27) (x := .tmp 15) ?_); refine wpList_load_at rowT_rule (r := RuC.row (q k)) HRG.out rfl _ rfl rfl rfl ?_)
            | ((with_reducible refine gd_store (ty := 27) (x := .tmp 6) ?_); refine wpList_store_new rowT_rule (r := RuC.row (q k)) rfl rfl (RuC.one _) _ _ rfl rfl rfl rfl rfl rfl ?_))
          go_upto_region 6 with fail
          rw [HW1.out]
          refine wp_region_later W1.heap.size (by kernel_rfl) (by kernel_rfl) ?_
          repeat (first
            | (go_big_quiet_want; (with_reducible refine gq_load (ty := 27) (x := .tmp 6) ?_); refine quiet_load rowT_rule (r := RuC.row (q k)) HV.out rfl _ rfl rfl ?_; go_big_quiet_on; simp only [Act.put, List.setIfInBounds_toArray, List.set_cons_succ, List.set_cons_zero])
            | go_big_quiet_step (first
                | (go_at_call 36; exact later_in (Nat.le_refl _) (ofrule_any _ _))
                | (go_at_call 57; exact later_in (Nat.le_refl _) (isname_still HFK.out HNM.out _))))
          refine wpQuiet_nil ?_
          intro w9 hu
          obtain ⟨⟨w10, hw10⟩, hw9⟩ := hu
          have e9 : w10 = w9 := hw9.symm
          subst e9
          have HB := hd (step_b (step_b HB.out HB1.out) hw10)
          clear hw9 hw10 HV
          go_wp2_with fail
          go_ret
          exact ⟨ret_bool HX.out.symm, HB.out⟩
        · have HNM := hd hnm
          by_cases h0 : 0 < k
          · obtain ⟨b', o', e', hbl', hr'⟩ := (HR.out.later HB.out).2 (k - 1) (by omega)
            obtain ⟨rfl, rfl⟩ : b = b' ∧ o = o' := by simpa using e'
            have HV2 := hd (later_range (rangeAt_later hr' hbl' HB1.out) (Nat.lt_of_lt_of_le hbl' HB1.out.size))
            have h0i : (0 : Int) < (k : Int) := by omega
            clear e' hr' hbl'
            cases hle : (Op.bytesLess (q k).ty.toList (q (k - 1)).ty.toList || (q k).ty.toList == (q (k - 1)).ty.toList)
            · have HX := one_more (p := fun j => stepR (fun k => (q k).ty) j = true) HA (by show (nameT (q k).ty && !(_ && leB (q k).ty (q (k - 1)).ty)) = true; unfold leB; rw [hnm, hle]; simp)
              clear hnm HA
              go_wp2_with (first
                | ((with_reducible refine gd_load (ty := 27) (x := .tmp 15) ?_); refine wpList_load_at rowT_rule (r := RuC.row (q k)) HRG.out rfl _ rfl rfl rfl ?_)
                | ((with_reducible refine gd_store (ty := 27) (x := .tmp 6) ?_); refine wpList_store_new rowT_rule (r := RuC.row (q k)) rfl rfl (RuC.one _) _ _ rfl rfl rfl rfl rfl rfl ?_))
              go_upto_region 6 with fail
              rw [HW1.out]
              refine wp_region_later W1.heap.size (by kernel_rfl) (by kernel_rfl) ?_
              repeat (first
                | (go_big_quiet_want; (with_reducible refine gq_load (ty := 27) (x := .tmp 6) ?_); refine quiet_load rowT_rule (r := RuC.row (q k)) HV.out rfl _ rfl rfl ?_; go_big_quiet_on; simp only [Act.put, List.setIfInBounds_toArray, List.set_cons_succ, List.set_cons_zero])
                | (go_big_quiet_want; (with_reducible refine gq_load (ty := 27) (x := .tmp 33) ?_); refine quiet_load rowT_rule (r := RuC.row (q (k - 1))) HV2.out rfl _ rfl rfl ?_; go_big_quiet_on; simp only [Act.put, List.setIfInBounds_toArray, List.set_cons_succ, List.set_cons_zero])
                | go_big_quiet_step (first
                    | (go_at_call 36; exact later_in (Nat.le_refl _) (ofrule_any _ _))
                    | (go_at_call 57; exact later_in (Nat.le_refl _) (isname_still HFK.out HNM.out _))))
              refine wpQuiet_nil ?_
              intro w9 hu
              obtain ⟨⟨w10, hw10⟩, hw9⟩ := hu
              have e9 : w10 = w9 := hw9.symm
              subst e9
              have HB := hd (step_b (step_b HB.out HB1.out) hw10)
              clear hw9 hw10 HV HV2
              go_wp2_with fail
              go_roundw
              case rel => exact ⟨k + 1, by omega, by go_num, HX, HB⟩
              case measure => simp [intOf]; omega
            · have HX := hd (HE.out.symm.trans (rise_fails (t := fun k => (q k).ty) hlt (by show (nameT (q k).ty && !(decide (0 < k) && leB (q k).ty (q (k - 1)).ty)) = false; unfold leB; rw [hnm, hle, decide_eq_true h0]; rfl)))
              clear hnm HA
              go_wp2_with (first
                | ((with_reducible refine gd_load (ty := 27) (x := .tmp 15) ?_); refine wpList_load_at rowT_rule (r := RuC.row (q k)) HRG.out rfl _ rfl rfl rfl ?_)
                | ((with_reducible refine gd_store (ty := 27) (x := .tmp 6) ?_); refine wpList_store_new rowT_rule (r := RuC.row (q k)) rfl rfl (RuC.one _) _ _ rfl rfl rfl rfl rfl rfl ?_))
              go_upto_region 6 with fail
              rw [HW1.out]
              refine wp_region_later W1.heap.size (by kernel_rfl) (by kernel_rfl) ?_
              repeat (first
                | (go_big_quiet_want; (with_reducible refine gq_load (ty := 27) (x := .tmp 6) ?_); refine quiet_load rowT_rule (r := RuC.row (q k)) HV.out rfl _ rfl rfl ?_; go_big_quiet_on; simp only [Act.put, List.setIfInBounds_toArray, List.set_cons_succ, List.set_cons_zero])
                | (go_big_quiet_want; (with_reducible refine gq_load (ty := 27) (x := .tmp 33) ?_); refine quiet_load rowT_rule (r := RuC.row (q (k - 1))) HV2.out rfl _ rfl rfl ?_; go_big_quiet_on; simp only [Act.put, List.setIfInBounds_toArray, List.set_cons_succ, List.set_cons_zero])
                | go_big_quiet_step (first
                    | (go_at_call 36; exact later_in (Nat.le_refl _) (ofrule_any _ _))
                    | (go_at_call 57; exact later_in (Nat.le_refl _) (isname_still HFK.out HNM.out _))))
              refine wpQuiet_nil ?_
              intro w9 hu
              obtain ⟨⟨w10, hw10⟩, hw9⟩ := hu
              have e9 : w10 = w9 := hw9.symm
              subst e9
              have HB := hd (step_b (step_b HB.out HB1.out) hw10)
              clear hw9 hw10 HV HV2
              go_wp2_with fail
              go_ret
              exact ⟨ret_bool HX.out.symm, HB.out⟩
          · have h0i : decide ((0 : Int) < (k : Int)) = false := dec_no (by omega)
            have HX := one_more (p := fun j => stepR (fun k => (q k).ty) j = true) HA (by show (nameT (q k).ty && !(decide (0 < k) && _)) = true; rw [hnm, dec_no h0]; rfl)
            clear hnm HA
            go_wp2_with (first
              | ((with_reducible refine gd_load (ty := 27) (x := .tmp 15) ?_); refine wpList_load_at rowT_rule (r := RuC.row (q k)) HRG.out rfl _ rfl rfl rfl ?_)
              | ((with_reducible refine gd_store (ty := 27) (x := .tmp 6) ?_); refine wpList_store_new rowT_rule (r := RuC.row (q k)) rfl rfl (RuC.one _) _ _ rfl rfl rfl rfl rfl rfl ?_))
            go_upto_region 6 with fail
            rw [HW1.out]
            refine wp_region_later W1.heap.size (by kernel_rfl) (by kernel_rfl) ?_
            repeat (first
              | (go_big_quiet_want; (with_reducible refine gq_load (ty := 27) (x := .tmp 6) ?_); refine quiet_load rowT_rule (r := RuC.row (q k)) HV.out rfl _ rfl rfl ?_; go_big_quiet_on; simp only [Act.put, List.setIfInBounds_toArray, List.set_cons_succ, List.set_cons_zero])
              | go_big_quiet_step (first
                  | (go_at_call 36; exact later_in (Nat.le_refl _) (ofrule_any _ _))
                  | (go_at_call 57; exact later_in (Nat.le_refl _) (isname_still HFK.out HNM.out _))))
            refine wpQuiet_nil ?_
            intro w9 hu
            obtain ⟨⟨w10, hw10⟩, hw9⟩ := hu
            have e9 : w10 = w9 := hw9.symm
            subst e9
            have HB := hd (step_b (step_b HB.out HB1.out) hw10)
            clear hw9 hw10 HV
            go_wp2_with fail
            go_roundw
            case rel => exact ⟨k + 1, by omega, by go_num, HX, HB⟩
            case measure => simp [intOf]; omega
      · obtain rfl : k = n := by omega
        have HX := hd (HE.out.symm.trans (rise_all HA.out))
        go_wp2_with fail
        go_ret
        exact ⟨ret_bool HX.out.symm, HB.out⟩

end Go.Proofs.Ytegaapeaeffgoaa
