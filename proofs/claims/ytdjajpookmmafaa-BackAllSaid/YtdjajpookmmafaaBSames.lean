/- The document's SameAll over lists of operations. -/
import Derived.Test.YtdjajpookmmafaaBList
namespace Go.Proofs.Ytdjajpookmmafaa
open Go.RowKit

noncomputable def sameAllO (us vs : List OpP) : Bool := @decide (us = vs) (Classical.propDecidable _)
set_option maxRecDepth 4000 in
theorem sameAllO_yes {us vs : List OpP} (h : us = vs) : sameAllO us vs = true := by unfold sameAllO; exact @decide_eq_true _ (Classical.propDecidable _) h
set_option maxRecDepth 4000 in
theorem sameAllO_no {us vs : List OpP} (h : us ≠ vs) : sameAllO us vs = false := by unfold sameAllO; exact @decide_eq_false _ (Classical.propDecidable _) h
set_option maxRecDepth 4000 in
theorem all_eq {us vs : List OpP} (hl : us.length = vs.length) (h : ∀ (k : Nat) (a b : OpP), us[k]? = some a → vs[k]? = some b → a = b) : us = vs := by
  refine List.ext_getElem? fun k => ?_
  rcases Nat.lt_or_ge k us.length with h1 | h1
  · have h2 : k < vs.length := by omega
    rw [List.getElem?_eq_getElem h1, List.getElem?_eq_getElem h2]
    exact congrArg some (h k _ _ (List.getElem?_eq_getElem h1) (List.getElem?_eq_getElem h2))
  · rw [List.getElem?_eq_none h1, List.getElem?_eq_none (by omega)]

set_option maxRecDepth 4000 in
theorem rangeAt_below {w w' : World} {b o : Nat} {cs : List Value} (h : w.rangeAt b o cs) (hb : b < w.heap.size) (ho : Below w.heap.size w w') : w'.rangeAt b o cs := fun j v hv => by
  rw [ho.cell (p := ⟨b, o + j, none⟩) hb]
  exact h j v hv
set_option maxRecDepth 100000 in
set_option maxHeartbeats 8000000 in
theorem sameall_at {w : World} {A B : Option Addr} {cs ds : List OC} {us vs : List OpP} {n m cap dap : Nat} {E : Bool} (h : LO w A cs us) (g : LO w B ds vs) (hn : us.length = n) (hm : vs.length = m) (h63 : n ≤ 9223372036854775807) (_hcap : n ≤ cap) (_hdap : m ≤ dap) (tu : ∀ (k : Nat) (a : OpP), us[k]? = some a → Tiny a) (tv : ∀ (k : Nat) (a : OpP), vs[k]? = some a → Tiny a) (hE : sameAllO us vs = E) :
    Calls Try.prog 19 #[.slice A n cap, .slice B m dap] w (Still (.bool E) w) := by
  subst hE
  have HL := hd h
  have HG := hd g
  have HN := hd hn
  have HM := hd hm
  have HTU := hd tu
  have HTV := hd tv
  clear h g hn hm tu tv _hcap _hdap
  by_cases hnm : n = m
  · subst hnm
    go_enter Try.func19, Try.ntmps19
    go_wp2_with fail
    go_loopw [13] (fun i wr => ∃ k : Nat, k ≤ n ∧ i = .int .i64 k ∧ Hid (∀ (j : Nat) (a b : OpP), j < k → us[j]? = some a → vs[j]? = some b → a = b) ∧ Hid (Below w.heap.size w wr)) (fun i _ => n - (intOf i).toNat)
    case atStart => exact ⟨0, Nat.zero_le _, rfl, hd (fun j a b hj => absurd hj (Nat.not_lt_zero _)), hd (Below.refl _ _)⟩
    case round =>
      obtain ⟨k, hk1, rfl, HA, HB⟩ := hrel
      by_cases hlt : k < n
      · obtain ⟨b1, o1, c1, a1, rfl, hb1, hc1, ha1, hok1, hrg1⟩ := (HL.out.later HB.out).at_ (k := k) (by rw [HN.out]; exact hlt)
        obtain ⟨b2, o2, c2, a2, rfl, hb2, hc2, ha2, hok2, hrg2⟩ := (HG.out.later HB.out).at_ (k := k) (by rw [HM.out]; exact hlt)
        have HO1 := hd hok1
        have HO2 := hd hok2
        have HR1 := hd (fun W9 (h9 : Below wr.heap.size wr W9) => rangeAt_below hrg1 hb1 h9)
        have HR2 := hd (fun W9 (h9 : Below wr.heap.size wr W9) => rangeAt_below hrg2 hb2 h9)
        have HA1 := hd ha1
        have HA2 := hd ha2
        clear hb1 hc1 ha1 hok1 hrg1 hb2 hc2 ha2 hok2 hrg2
        obtain ⟨E, he⟩ : ∃ E, eqO a1 a2 = E := ⟨_, rfl⟩
        have HE := hd he
        clear he
        go_upto_region 6 with fail
        refine Y_start (S := fun W' => Below wr.heap.size wr W') (z := fun _ => false) (by kernel_rfl) ?_
        have HSS := hd (show Below wr.heap.size wr wr.drew from (Below.refl _ _).drew)
        refine Y_take (i := 0) (n := 9) (.slice (some ⟨b1, o1, none⟩) n cap) rfl (by kernel_rfl) (by kernel_rfl) (by kernel_rfl) (by kernel_rfl) (fun _ _ _ h => h) (by rfl) (fun W9 hW9 => ?_) HSS.out ?_
        · go_simp
        simp only [Act.put, List.setIfInBounds_toArray]
        refine Y_take (i := 1) (n := 8) (.int .i64 (k : Int)) rfl (by kernel_rfl) (by kernel_rfl) (by kernel_rfl) (by kernel_rfl) (fun _ _ _ h => h) (by rfl) (fun W9 hW9 => ?_) HSS.out ?_
        · go_simp
        simp only [Act.put]
        refine Y_take (i := 2) (n := 7) (.pointer (some ⟨b1, o1 + k * 21, none⟩)) rfl (by kernel_rfl) (by kernel_rfl) (by kernel_rfl) (by kernel_rfl) (fun _ _ _ h => h) (by rfl) (fun W9 hW9 => ?_) HSS.out ?_
        · go_simp
        simp only [Act.put]
        refine Y_take (i := 3) (n := 6) (.agg c1.row) rfl (by kernel_rfl) (by kernel_rfl) (by kernel_rfl) (by kernel_rfl) (fun _ _ _ h => h) (by rfl) (fun W9 hW9 => ?_) HSS.out ?_
        · exact exec_load_el (HR1.out _ hW9) _ rfl rfl
        simp only [Act.put]
        refine Y_take (i := 4) (n := 5) (.slice (some ⟨b2, o2, none⟩) n dap) rfl (by kernel_rfl) (by kernel_rfl) (by kernel_rfl) (by kernel_rfl) (fun _ _ _ h => h) (by rfl) (fun W9 hW9 => ?_) HSS.out ?_
        · go_simp
        simp only [Act.put]
        refine Y_take (i := 5) (n := 4) (.int .i64 (k : Int)) rfl (by kernel_rfl) (by kernel_rfl) (by kernel_rfl) (by kernel_rfl) (fun _ _ _ h => h) (by rfl) (fun W9 hW9 => ?_) HSS.out ?_
        · go_simp
        simp only [Act.put]
        refine Y_take (i := 6) (n := 3) (.pointer (some ⟨b2, o2 + k * 21, none⟩)) rfl (by kernel_rfl) (by kernel_rfl) (by kernel_rfl) (by kernel_rfl) (fun _ _ _ h => h) (by rfl) (fun W9 hW9 => ?_) HSS.out ?_
        · go_simp
        simp only [Act.put]
        refine Y_take (i := 7) (n := 2) (.agg c2.row) rfl (by kernel_rfl) (by kernel_rfl) (by kernel_rfl) (by kernel_rfl) (fun _ _ _ h => h) (by rfl) (fun W9 hW9 => ?_) HSS.out ?_
        · exact exec_load_el (HR2.out _ hW9) _ rfl rfl
        simp only [Act.put]
        refine Y_one (i := 8) (n := 1) (by kernel_rfl) rfl (fun K hK => ?_)
        rw [if_pos (by rfl)]
        go_simp
        go_at_call 13
        refine (rsameop_at (HO1.out.later HSS.out) (HO2.out.later HSS.out) (HTU.out _ _ HA1.out) (HTV.out _ _ HA2.out) HE.out).mono ?_
        rintro e w9 ⟨rfl, b9⟩
        have HSS := hd (step_b HSS.out b9)
        clear b9
        refine hK _ _ (fun _ => HSS.out) ?_
        clear hK K
        refine Y_one (i := 9) (n := 0) (by kernel_rfl) rfl (fun K hK => ?_)
        rw [if_pos (by rfl)]
        go_simp
        refine hK _ _ (fun _ => HSS.out) (Y_done (by kernel_rfl) ?_)
        clear hK K
        have HB := hd (step_b HB.out HSS.out)
        cases E
        · have HZ := hd (sameAllO_no (us := us) (vs := vs) (fun e => by have h1 := HA1.out; rw [e, HA2.out] at h1; injection h1 with h1; subst h1; have h2 := HE.out; rw [eqO_self] at h2; cases h2))
          clear HA
          go_wp2_with fail
          go_ret
          exact ⟨by rw [HZ.out]; rfl, HB.out⟩
        · have HAn := hd (show ∀ (j : Nat) (a b : OpP), j < k + 1 → us[j]? = some a → vs[j]? = some b → a = b from fun j a b hj h1 h2 => by
            rcases Nat.lt_or_ge j k with h | h
            · exact HA.out j a b h h1 h2
            · obtain rfl : j = k := by omega
              rw [HA1.out] at h1
              rw [HA2.out] at h2
              injection h1 with h1
              injection h2 with h2
              subst h1 h2
              exact eqO_eq HE.out)
          clear HA
          go_wp2_with fail
          go_roundw
          case rel => exact ⟨k + 1, by omega, by go_num, HAn, HB⟩
          case measure => simp [intOf]; omega
      · obtain rfl : k = n := by omega
        have HZ := hd (sameAllO_yes (us := us) (vs := vs) (all_eq (by rw [HN.out, HM.out]) (fun j a b h1 h2 => HA.out j a b (by rw [← HN.out]; exact (List.getElem?_eq_some_iff.1 h1).1) h1 h2)))
        clear HA hk1 hlt
        go_wp2_with fail
        go_ret
        exact ⟨by rw [HZ.out]; rfl, HB.out⟩
  · have hx : ((n : Int) != (m : Int)) = true := by simp; omega
    have HZ := hd (sameAllO_no (us := us) (vs := vs) (fun e => hnm (by rw [← HN.out, ← HM.out, e])))
    go_enter Try.func19, Try.ntmps19
    go_wp2_with fail
    go_ret
    exact ⟨by rw [HZ.out]; rfl, Below.refl _ _⟩

end Go.Proofs.Ytdjajpookmmafaa
