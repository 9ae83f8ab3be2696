/- The document's Unquote. -/
import Derived.Test.YtknkclbjocfhiaaDoorGRQuote
namespace Go.Proofs.YtknkclbjocfhiaaDoor
open Go.RowKit

theorem byte_int {b : UInt8} {c : Int} (h : (b.toNat : Int) = c) : UInt8.ofNat c.toNat = b := by
  subst h; simp
set_option maxRecDepth 100000 in
set_option maxHeartbeats 16000000 in
theorem runquote_any (s : ByteArray) (w : World) (hs : s.size ≤ 40000) :
    Calls Tryd.prog 55 #[.string s] w (UnqOk (unqL s.data.toList) w) := by
  rcases Nat.eq_zero_or_pos s.size with h0 | h0
  · have := empty_of s h0
    subst this
    clear h0 hs
    go_enter Tryd.func55, Tryd.ntmps55
    go_wp2
    go_ret3
    exact unq_err rfl rfl (Below.refl _ _)
  · have HC0 := drop_cons s 0 h0
    rw [List.drop_zero] at HC0
    have hs1 : (1 : Int) ≤ s.size := by omega
    have hsne : ((s.size : Int) == 0) = false := beq_eq_false_iff_ne.2 (by omega)
    have hb0 := s[0].toNat_lt
    obtain ⟨x0, hx0⟩ : ∃ x : Int, (s[0].toNat : Int) = x := ⟨_, rfl⟩
    by_cases h34 : s[0] = 34
    · have hU := hd (show unqL s.data.toList = unqA (s.data.toList.drop 1) 1 [] by rw [HC0, unqL_cons, if_pos h34]; rfl)
      have hx : x0 = 34 := by rw [← hx0, h34]; rfl
      subst hx
      clear HC0 h34 hb0
      have h1 : 1 ≤ s.size := h0
      go_enter Tryd.func55, Tryd.ntmps55
      go_wp2
      go_loopw [5, 6] (fun v i wr => ∃ (k : Nat) (out : List Int), 1 ≤ k ∧ k ≤ s.size ∧ i = .int .i64 k ∧ out.length ≤ k ∧ Hid (OwnV 21 wr w.heap.size v (rv out)) ∧ Below w.heap.size w wr ∧ Hid (unqL s.data.toList = unqA (s.data.toList.drop k) k out)) (fun _ i _ => s.size - (intOf i).toNat)
      case atStart => exact ⟨1, [], Nat.le_refl _, h1, rfl, by simp, OwnV.nil _ _, Below.refl _ _, hU⟩
      case round =>
        obtain ⟨k, out, hk1, hk, rfl, hol, ho, hb, HU⟩ := hrel
        by_cases hlt : k < s.size
        · have hdc := drop_cons s k hlt
          have hbk := s[k].toNat_lt
          obtain ⟨x, hx⟩ : ∃ x : Int, (s[k].toNat : Int) = x := ⟨_, rfl⟩
          have b1 : 0 ≤ x := by omega
          have b2 : x < 256 := by omega
          have hlo : (rv out).length ≤ 50000 := by rw [rv_len]; omega
          by_cases h34 : s[k] = 34
          · have hx2 : x = 34 := by rw [← hx, h34]; rfl
            subst hx2
            by_cases hend : k + 1 = s.size
            · have HF := hd (show unqL s.data.toList = (out, 0, 0) by rw [HU.out, hdc, h34, drop_all s (k + 1) (by omega), unqA_last])
              have hg2 : ¬ k + 1 < s.size := by omega
              clear hdc h34 hend hbk
              go_wp2
              go_ret3
              exact unq_ret HF.out ho.out hb
            · have HF := hd (show unqL s.data.toList = ([], ((k + 1 : Nat) : Int), 11) by
                rw [HU.out, hdc, h34]
                exact unqA_more _ _ _ (fun e => by have := congrArg List.length e; rw [List.length_drop, data_len] at this; simp at this; omega))
              have hg2 : k + 1 < s.size := by omega
              clear hdc h34 hend hbk
              go_wp2
              go_ret3
              exact unq_err HF.out (by omega) hb
          · have hq : x ≠ 34 := fun e => h34 (byte_eq (by rw [hx, e]; rfl))
            have g34 : (x == 34) = false := by simpa using hq
            by_cases h92 : s[k] = 92
            · have hx2 : x = 92 := by rw [← hx, h92]; rfl
              have HE := hd (show Calls Tryd.prog 78 #[.string (s.extract (k + 1) s.size)] wr (Quiet (escT (s.data.toList.drop (k + 1))) wr) by
                have := escape_any (s.extract (k + 1) s.size) wr (by rw [extract_size]; omega)
                rwa [extract_drop] at this)
              cases he : escR (s.data.toList.drop (k + 1)) with
              | none =>
                have HF := hd (show unqL s.data.toList = ([], (k : Int), 11) by
                  rw [HU.out, hdc]
                  refine unqA_bad _ _ _ _ h34 ?_
                  rw [readL_cons, if_pos h92, he])
                rw [escT_none he] at HE
                subst hx2
                clear hdc h34 h92 hbk hq he b1 b2
                go_wp2_with (go_at_call 78; refine HE.out.mono ?_; rintro e w' ⟨rfl, kd, rfl⟩)
                go_ret3
                exact unq_err HF.out rfl (below_drewN hb _)
              | some y =>
                obtain ⟨c, n⟩ := y
                obtain ⟨q1, q2, q3, q4, q5⟩ := escR_inv _ c n he
                rw [List.length_drop, data_len] at q4
                have HF := hd (show unqL s.data.toList = unqA (s.data.toList.drop (k + (n + 1))) (k + (n + 1)) (out ++ [(c : Int)]) by
                  rw [HU.out, hdc]
                  rw [unqA_step _ _ _ _ h34 (c : Int) (n + 1) (by rw [readL_cons, if_pos h92, he]) (by omega), ← hdc, List.drop_drop])
                rw [escT_some he] at HE
                subst hx2
                clear hdc h34 h92 hbk hq he b1 b2 q1 q2 q3 q5
                go_wp2_with (first | (go_at_call 78; refine HE.out.mono ?_; rintro e w1 ⟨rfl, hkd⟩; have hb1 : Below w.heap.size w w1 := (by obtain ⟨kd, rfl⟩ := hkd; exact below_drewN hb kd); have ho1 := hd (show OwnV 21 w1 w.heap.size u5 (rv out) from (by obtain ⟨kd, rfl⟩ := hkd; exact ho.out.below (below_drewN (Below.refl _ _) kd))); clear hkd) | (at_builtin; refine wpList_append_1 runeElem (by decide) _ rfl (.tmp 54) (.tmp 56) rfl w.heap.size _ (rv out) (.int .i32 c) _ rfl ho1.out _ rfl rfl rfl hlo hb1.size ?_; intro v3 w3 ho3 hg3))
                have HO3 := hd (show OwnV 21 w3 w.heap.size v3 (rv (out ++ [(c : Int)])) by rw [rv_append]; exact ho3)
                have hb3 := hg3.below w.heap.size w (Nat.le_refl _) hb1.size hb1
                go_roundw
                case rel => exact ⟨k + (n + 1), out ++ [(c : Int)], by omega, by omega, by go_num, by simp; omega, HO3, hb3, HF⟩
                case measure => simp [intOf]; omega
            · have hq92 : x ≠ 92 := fun e => h92 (byte_eq (by rw [hx, e]; rfl))
              have g92 : (x == 92) = false := by simpa using hq92
              have hrd : readL (s[k] :: s.data.toList.drop (k + 1)) = if isP x then (x, 1) else (0, 0) := by rw [readL_cons, if_neg h92, hx]
              have HPl := hd (plain_any x wr)
              cases hp : isP x
              · have HF := hd (show unqL s.data.toList = ([], (k : Int), 11) by
                  rw [HU.out, hdc]
                  refine unqA_bad _ _ _ _ h34 ?_
                  rw [hrd, hp]; rfl)
                rw [hp] at HPl
                clear hdc h34 h92 hbk hq hq92 hrd hp
                go_wp2_with (go_at_call 72; refine HPl.out.mono ?_; rintro e w' ⟨rfl, rfl⟩)
                go_ret3
                exact unq_err HF.out rfl hb
              · have HF := hd (show unqL s.data.toList = unqA (s.data.toList.drop (k + 1)) (k + 1) (out ++ [x]) by
                  rw [HU.out, hdc]
                  rw [unqA_step _ _ _ _ h34 x 1 (by rw [hrd, hp]; rfl) (by omega)]
                  rfl)
                rw [hp] at HPl
                clear hdc h34 h92 hbk hq hq92 hrd hp
                go_wp2_with (first | (go_at_call 72; refine HPl.out.mono ?_; rintro e w' ⟨rfl, rfl⟩) | (at_builtin; refine wpList_append_1 runeElem (by decide) _ rfl (.tmp 65) (.tmp 67) rfl w.heap.size _ (rv out) (.int .i32 x) _ rfl ho.out _ rfl rfl rfl hlo hb.size ?_; intro v3 w3 ho3 hg3))
                have HO3 := hd (show OwnV 21 w3 w.heap.size v3 (rv (out ++ [x])) by rw [rv_append]; exact ho3)
                have hb3 := hg3.below w.heap.size w (Nat.le_refl _) hb.size hb
                go_roundw
                case rel => exact ⟨k + 1, out ++ [x], by omega, by omega, by go_num, by simp; omega, HO3, hb3, HF⟩
                case measure => simp [intOf]; omega
        · have HF := hd (show unqL s.data.toList = ([], (k : Int), 11) by rw [HU.out, drop_all s k (by omega), unqA_nil])
          have hlt' : decide (k < s.size) = false := decide_eq_false hlt
          have hke : ((s.size : Nat) : Int) = (k : Int) := by omega
          have HKe := hd hke
          clear hlt hke
          go_wp2
          go_ret3
          exact unq_err HF.out HKe.out hb
    · have HF := hd (show unqL s.data.toList = ([], 0, 11) by rw [HC0, unqL_cons, if_neg h34])
      have hq : x0 ≠ 34 := fun e => h34 (byte_eq (by rw [hx0, e]; rfl))
      have g3 : (x0 == 34) = false := by simpa using hq
      have g4 : (x0 != 34) = true := by simpa using hq
      clear HC0 h34 hb0 hq
      go_enter Tryd.func55, Tryd.ntmps55
      go_wp2
      go_ret3
      exact unq_err HF.out rfl (Below.refl _ _)

end Go.Proofs.YtknkclbjocfhiaaDoor
