/- The walk of GlyphCuts: whatever the input, it answers true, and old memory stays as it was. -/
import Derived.Test.YtnbcnljegkemiaaDoorGIns
namespace Go.Proofs.YtnbcnljegkemiaaDoor
open Go.RowKit

theorem NewC.own {w w' : World} {r : (List Int × List Int) × Int} {e : Ending} (h : NewC w r e w') (l m : List Int) (er : Int) (n k : Nat) (hr : r = ((l, m), er)) (hn : l.length = n) (hk : m.length = k) :
    ∃ A c B d, e = .returned (.tuple #[.slice A n c, .slice B k d, .int .i64 er]) ∧ n ≤ c ∧ k ≤ d ∧ VL w' w'.heap.size A (rv l) ∧ VL w' w'.heap.size B (rv m) ∧ OwnV 21 w' w.heap.size (.slice A n c) (rv l) ∧ OwnV 21 w' w.heap.size (.slice B k d) (rv m) ∧ Below w.heap.size w w' := by
  subst hr
  obtain ⟨v1, v2, he, ho1, ho2, hb⟩ := h
  obtain ⟨A, c, rfl, h1, _, h2, h3⟩ := ho1.open_at n (by rw [rv_len]; exact hn)
  obtain ⟨B, d, rfl, k1, _, k2, k3⟩ := ho2.open_at k (by rw [rv_len]; exact hk)
  exact ⟨A, c, B, d, he, h1, k1, h2, k2, h3, k3, hb⟩
theorem ins_parts (l : List Int) (k : Nat) (hk : k ≤ l.length) (h : okR l = true) : insL (l.take k) k (l.drop k) = (l, 0) := by
  unfold insL
  have hl : (l.take k).length = k := by simp; omega
  have e1 : (l.take k).take k = l.take k := List.take_of_length_le (by omega)
  have e2 : (l.take k).drop k = [] := List.drop_eq_nil_of_le (by omega)
  rw [if_pos (by rw [okR_take h, okR_drop h]; rfl), if_pos (by omega), Int.toNat_natCast, e1, e2, List.append_nil, List.take_append_drop]
theorem rem_parts (l : List Int) (k : Nat) (hk : k ≤ l.length) (h : okR l = true) : remL l k (l.drop k) = (l.take k, 0) := by
  unfold remL
  have e1 : (l.drop k).take (l.drop k).length = l.drop k := List.take_length ..
  have e2 : l.drop (k + (l.drop k).length) = [] := List.drop_eq_nil_of_le (by simp; omega)
  rw [if_pos (by rw [h, okR_drop h]; rfl), if_pos (by omega), Int.toNat_natCast, e1, if_pos rfl, e2, List.append_nil]

set_option maxRecDepth 100000 in
set_option maxHeartbeats 16000000 in
theorem cuts_any (A : Option Addr) (l : List Int) (a c : Nat) (p : Int) (w : World) (hT : Hid (Tab w)) (ha : l.length = a) (hl : a ≤ 9223372036854775807) (hac : a ≤ c) (hp : VL w w.heap.size A (rv l)) :
    Calls Tryd.prog 7 #[.slice A a c, .int .i64 p] w (AllTrue w) := by
  have HP := hd hp
  have HA := hd ha
  clear hp ha
  by_cases hlong : 200 < a
  · go_enter Tryd.func7, Tryd.ntmps7
    go_wp2_with fail
    refine (live_any _ hT).mono ?_
    rintro e w1 ⟨rfl, hb1⟩
    go_wp2
    go_ret
    exact ⟨rfl, hb1⟩
  · have hl200 : a ≤ 200 := by omega
    clear hlong
    have HC : Hid (∀ W : World, VL W W.heap.size A (rv l) → Calls Tryd.prog 18 #[.slice A a c] W (Pure (.int .i64 (if okR l then 0 else 4)) W)) := hd (fun W hv => check_any A l a c W HA.out (by omega) hv)
    obtain ⟨e0, he⟩ : ∃ e, atE l p [] = e := ⟨_, rfl⟩
    by_cases he0 : e0 = 0
    · subst he0
      obtain ⟨k, rfl, hk, hI⟩ := cutL_ok_ l p he
      have hok : okR l = true := by
        cases h : okR l
        · unfold atE at he
          rw [h] at he
          simp at he
        · rfl
      have HR := hd hI
      have hka : k ≤ a := by have := HA.out; omega
      have HI := hd (ins_parts l k hk hok)
      have HM := hd (rem_parts l k hk hok)
      have HLt : Hid ((l.take k).length = k) := hd (by simp; omega)
      have HLd : Hid ((l.drop k).length = a - k) := hd (by have := HA.out; simp; omega)
      have HSe := hd (sameL_self l)
      have HSt := hd (sameL_self (l.take k))
      clear he hI hok hk HC
      go_enter Tryd.func7, Tryd.ntmps7
      go_wp2_with fail
      refine (live_any _ hT).mono ?_
      rintro e w1 ⟨rfl, hb1⟩
      go_wp2_with fail
      refine (cut_any A l a c k w1 HA.out (by omega) hac (HP.out.later hb1)).mono ?_
      intro e w2 h2
      obtain ⟨A2, c2, B2, d2, rfl, q2, r2, v2, u2, _, _, hb2⟩ := h2.own (l.take k) (l.drop k) 0 k (a - k) HR.out HLt.out HLd.out
      have HV2 := hd v2
      have HU2 := hd u2
      have hb2 := hb1.trans (hb2.mono hb1.size)
      clear v2 u2 h2
      go_wp2_with fail
      refine (insert_any A2 B2 (l.take k) (l.drop k) k (a - k) c2 d2 k w2 HLt.out HLd.out (by omega) (by omega) q2 r2 HV2.out HU2.out).mono ?_
      intro e w3 h3
      obtain ⟨A3, c3, rfl, q3, v3, _, hb3⟩ := h3.own l 0 a HI.out HA.out
      have HV3 := hd v3
      have HV2 := hd (HV2.out.later hb3)
      have HU2 := hd (HU2.out.later hb3)
      have hb3 := hb2.trans (hb3.mono hb2.size)
      clear v3 h3
      go_wp2_with fail
      refine (remove_any A B2 l (l.drop k) a (a - k) c d2 k w3 HA.out HLd.out (by omega) (by omega) hac r2 (HP.out.later hb3) HU2.out).mono ?_
      intro e w4 h4
      obtain ⟨A4, c4, rfl, q4, v4, _, hb4⟩ := h4.own (l.take k) 0 k HM.out HLt.out
      have HV4 := hd v4
      have HV2 := hd (HV2.out.later hb4)
      have HV3 := hd (HV3.out.later hb4)
      have hb4 := hb3.trans (hb4.mono hb3.size)
      clear v4 h4
      go_wp2_with fail
      refine (calls_still (rsame_any A3 A l l a a c3 c true HSe.out w4 HA.out HA.out hl hl HV3.out (HP.out.later hb4))).mono ?_
      rintro e w5 ⟨rfl, hb5⟩
      have HV2 := hd (HV2.out.later hb5)
      have HV4 := hd (HV4.out.later hb5)
      have hb5 := hb4.trans (hb5.mono hb4.size)
      go_wp2_with fail
      refine (calls_still (rsame_any A4 A2 (l.take k) (l.take k) k k c4 c2 true HSt.out w5 HLt.out HLt.out (by omega) (by omega) HV4.out HV2.out)).mono ?_
      rintro e w6 ⟨rfl, hb6⟩
      have hb6 := hb5.trans (hb6.mono hb5.size)
      go_wp2
      go_ret
      exact ⟨rfl, hb6⟩
    · have HR := hd (cutL_err_ l p e0 he he0)
      have k1 : (e0 == 0) = false := by simpa using he0
      have k2 : (e0 != 0) = true := by simpa using he0
      cases hok : okR l
      · rw [hok] at HC
        clear he he0 hok
        go_enter Tryd.func7, Tryd.ntmps7
        go_wp2_with fail
        refine (live_any _ hT).mono ?_
        rintro e w1 ⟨rfl, hb1⟩
        go_wp2_with fail
        refine (cut_any A l a c p w1 HA.out (by omega) hac (HP.out.later hb1)).mono ?_
        intro e w2 h2
        obtain ⟨A2, c2, B2, d2, rfl, _, _, v2, _, _, _, hb2⟩ := h2.own [] [] e0 0 0 HR.out rfl rfl
        have hb2 := hb1.trans (hb2.mono hb1.size)
        go_wp2_with fail
        refine (HC.out w2 (HP.out.later hb2)).mono ?_
        rintro e w3 ⟨rfl, rfl⟩
        go_wp2
        go_ret
        exact ⟨rfl, hb2⟩
      · have hpp : ¬ (0 ≤ p ∧ p ≤ a) := fun h => he0 (by
          rw [← he]; unfold atE
          have h0 : okR [] = true := rfl
          rw [if_pos (by rw [hok, h0]; rfl), if_pos (by have := HA.out; omega)])
        rw [hok] at HC
        clear he he0 hok
        rcases (show p < 0 ∨ (0 ≤ p ∧ (a : Int) < p) by omega) with h | ⟨h, h'⟩
        · clear hpp
          go_enter Tryd.func7, Tryd.ntmps7
          go_wp2_with fail
          refine (live_any _ hT).mono ?_
          rintro e w1 ⟨rfl, hb1⟩
          go_wp2_with fail
          refine (cut_any A l a c p w1 HA.out (by omega) hac (HP.out.later hb1)).mono ?_
          intro e w2 h2
          obtain ⟨A2, c2, B2, d2, rfl, _, _, v2, _, _, _, hb2⟩ := h2.own [] [] e0 0 0 HR.out rfl rfl
          have hb2 := hb1.trans (hb2.mono hb1.size)
          go_wp2_with fail
          refine (HC.out w2 (HP.out.later hb2)).mono ?_
          rintro e w3 ⟨rfl, rfl⟩
          go_wp2
          go_ret
          exact ⟨rfl, hb2⟩
        · clear hpp
          go_enter Tryd.func7, Tryd.ntmps7
          go_wp2_with fail
          refine (live_any _ hT).mono ?_
          rintro e w1 ⟨rfl, hb1⟩
          go_wp2_with fail
          refine (cut_any A l a c p w1 HA.out (by omega) hac (HP.out.later hb1)).mono ?_
          intro e w2 h2
          obtain ⟨A2, c2, B2, d2, rfl, _, _, v2, _, _, _, hb2⟩ := h2.own [] [] e0 0 0 HR.out rfl rfl
          have hb2 := hb1.trans (hb2.mono hb1.size)
          go_wp2_with fail
          refine (HC.out w2 (HP.out.later hb2)).mono ?_
          rintro e w3 ⟨rfl, rfl⟩
          go_wp2
          go_ret
          exact ⟨rfl, hb2⟩

end Go.Proofs.YtnbcnljegkemiaaDoor
