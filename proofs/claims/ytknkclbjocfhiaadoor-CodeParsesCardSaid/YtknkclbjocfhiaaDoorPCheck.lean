/- Check answers what is wrong with a list first; old memory stays as it was. -/
import Derived.Test.YtknkclbjocfhiaaDoorPGet
import Derived.Deep.QuietTactic
import Derived.BigQuiet
namespace Go.Proofs.YtknkclbjocfhiaaDoor
open Go.RowKit

theorem key_is (s : ByteArray) (b : Bool) (h : keyB s = b) (w : World) (hs : s.size ≤ 9223372036854775807) : Calls Tryd.prog 81 #[.string s] w fun e w' => e = .returned (.bool b) ∧ w = w' := h ▸ key_any s w hs
set_option maxRecDepth 4000 in
theorem val_is (s : ByteArray) (b : Bool) (h : valB s = b) (w : World) (hs : s.size ≤ 9223372036854775807) : Calls Tryd.prog 82 #[.string s] w fun e w' => e = .returned (.bool b) ∧ w = w' := h ▸ val_any s w hs
set_option maxRecDepth 4000 in
theorem rkey_is (s : ByteArray) (b : Bool) (h : keyB s = b) (w : World) (hs : s.size ≤ 9223372036854775807) : Calls Tryd.prog 85 #[.string s] w fun e w' => e = .returned (.bool b) ∧ w = w' := h ▸ rkey_any s w hs
set_option maxRecDepth 4000 in
theorem rval_is (s : ByteArray) (b : Bool) (h : valB s = b) (w : World) (hs : s.size ≤ 9223372036854775807) : Calls Tryd.prog 86 #[.string s] w fun e w' => e = .returned (.bool b) ∧ w = w' := h ▸ rval_any s w hs

set_option maxRecDepth 4000 in
set_option maxHeartbeats 2000000 in
theorem pcheck_any (A : Option Addr) (l : List Pr) (c : Nat) (w : World) (hF : Wide l) (hp : PL w w.heap.size A l) :
    Calls Tryd.prog 61 #[.slice A l.length c] w fun e w' => e = .returned (.int .i64 (chk l)) ∧ Below w.heap.size w w' := by
  have hl60 := hF.1
  by_cases h16 : (16 : Int) < (l.length : Int)
  · go_enter Tryd.func61, Tryd.ntmps61
    go_wp2
    go_ret
    exact ⟨ret_int (by unfold chk; rw [if_pos (by omega)]), Below.refl _ _⟩
  · have hK : Hid (chk l = firstE l) := hd (by unfold chk; rw [if_neg (by omega)])
    go_enter Tryd.func61, Tryd.ntmps61
    go_wp2
    go_loopw [10] (fun i wr => ∃ n : Nat, n ≤ l.length ∧ i = .int .i64 n ∧ Below w.heap.size w wr ∧ Hid (∀ j, j < n → stepE l j = 0)) (fun i _ => l.length - (intOf i).toNat)
    case atStart => exact ⟨0, Nat.zero_le _, rfl, Below.refl _ _, fun j hj => absurd hj (Nat.not_lt_zero _)⟩
    case round =>
      obtain ⟨n, hn, rfl, hb, HA⟩ := hrel
      by_cases hlt : n < l.length
      · obtain ⟨b, o, rfl, hlb, c1, c2⟩ := (hp.below hb).at_ hlt
        obtain ⟨s1, s2⟩ := hF.at_ hlt
        have hbs := Nat.lt_of_lt_of_le hlb hb.size
        cases hk : keyB (prAt l n).1
        · have HS := hd (firstE_at l n hlt HA.out (by unfold stepE; rw [hk]; simp))
          have HV := hd (show stepE l n = 3 by unfold stepE; rw [hk]; rfl)
          have hC := fun W => hd (key_is (prAt l n).1 _ hk W (by omega))
          clear hk HA hp hF
          go_wp2_with (go_at_call 81; refine (hC _).out.mono ?_; rintro e w' ⟨rfl, rfl⟩)
          go_ret
          exact ⟨ret_int (by rw [hK.out, HS.out, HV.out]), hb.alloc hb.size _⟩
        · cases hv : valB (prAt l n).2
          · have HS := hd (firstE_at l n hlt HA.out (by unfold stepE; rw [hk, hv]; simp))
            have HV := hd (show stepE l n = 3 by unfold stepE; rw [hk, hv]; rfl)
            have hC := fun W => hd (key_is (prAt l n).1 _ hk W (by omega))
            have hD := fun W => hd (val_is (prAt l n).2 _ hv W (by omega))
            clear hk hv HA hp hF
            go_wp2_with (first | (go_at_call 81; refine (hC _).out.mono ?_; rintro e w' ⟨rfl, rfl⟩) | (go_at_call 82; refine (hD _).out.mono ?_; rintro e w' ⟨rfl, rfl⟩))
            go_ret
            exact ⟨ret_int (by rw [hK.out, HS.out, HV.out]), hb.alloc hb.size _⟩
          · have hC := fun W => hd (key_is (prAt l n).1 _ hk W (by omega))
            have hD := fun W => hd (val_is (prAt l n).2 _ hv W (by omega))
            by_cases h0 : 0 < n
            · obtain ⟨b', o', e', hlb', d1, d2⟩ := (hp.below hb).at_ (show n - 1 < l.length by omega)
              obtain ⟨rfl, rfl⟩ : b = b' ∧ o = o' := by simpa using e'
              clear e' d2 hlb'
              have h0i : (0 : Int) < (n : Int) := by omega
              cases hle : (Op.bytesLess (prAt l n).1.toList (prAt l (n - 1)).1.toList || (prAt l n).1.toList == (prAt l (n - 1)).1.toList)
              · have HB := one_more (p := fun j => stepE l j = 0) HA (by unfold stepE leB; rw [hk, hv, hle]; simp)
                clear hk hv HA hp hF
                go_wp2_with (first | (go_at_call 81; refine (hC _).out.mono ?_; rintro e w' ⟨rfl, rfl⟩) | (go_at_call 82; refine (hD _).out.mono ?_; rintro e w' ⟨rfl, rfl⟩))
                go_quiet (fail)
                go_wp2
                go_roundw
                case rel => exact ⟨n + 1, by omega, by go_num, below_drewN (hb.alloc hb.size _) _, HB⟩
                case measure => simp [intOf]; omega
              · have HV := hd (show stepE l n = 1 by unfold stepE leB; rw [hk, hv, hle]; simp [h0])
                have HS := hd (firstE_at l n hlt HA.out (by rw [HV.out]; decide))
                clear hk hv HA hp hF
                go_wp2_with (first | (go_at_call 81; refine (hC _).out.mono ?_; rintro e w' ⟨rfl, rfl⟩) | (go_at_call 82; refine (hD _).out.mono ?_; rintro e w' ⟨rfl, rfl⟩))
                go_quiet (fail)
                go_wp2
                go_ret
                exact ⟨ret_int (by rw [hK.out, HS.out, HV.out]), below_drewN (hb.alloc hb.size _) _⟩
            · have h0i : decide ((0 : Int) < (n : Int)) = false := dec_no (by omega)
              have HB := one_more (p := fun j => stepE l j = 0) HA (by unfold stepE; rw [hk, hv, dec_no h0]; simp)
              clear hk hv HA hp hF
              go_wp2_with (first | (go_at_call 81; refine (hC _).out.mono ?_; rintro e w' ⟨rfl, rfl⟩) | (go_at_call 82; refine (hD _).out.mono ?_; rintro e w' ⟨rfl, rfl⟩))
              go_quiet (fail)
              go_wp2
              go_roundw
              case rel => exact ⟨n + 1, by omega, by go_num, below_drewN (hb.alloc hb.size _) _, HB⟩
              case measure => simp [intOf]; omega
      · have HF := hd (firstE_none l (fun j hj => HA.out j (by omega)))
        clear HA hp hF
        go_wp2
        go_ret
        exact ⟨ret_int (by rw [hK.out, HF.out]), hb⟩

set_option maxRecDepth 4000 in
set_option maxHeartbeats 2000000 in
theorem prcheck_any (A : Option Addr) (l : List Pr) (c : Nat) (w : World) (hF : Wide l) (hp : PL w w.heap.size A l) :
    Calls Tryd.prog 70 #[.slice A l.length c] w fun e w' => e = .returned (.int .i64 (chk l)) ∧ Below w.heap.size w w' := by
  have hl60 := hF.1
  by_cases h16 : (16 : Int) < (l.length : Int)
  · go_enter Tryd.func70, Tryd.ntmps70
    go_wp2
    go_ret
    exact ⟨ret_int (by unfold chk; rw [if_pos (by omega)]), Below.refl _ _⟩
  · have hK : Hid (chk l = firstE l) := hd (by unfold chk; rw [if_neg (by omega)])
    go_enter Tryd.func70, Tryd.ntmps70
    go_wp2
    go_loopw [10] (fun i wr => ∃ n : Nat, n ≤ l.length ∧ i = .int .i64 n ∧ Below w.heap.size w wr ∧ Hid (∀ j, j < n → stepE l j = 0)) (fun i _ => l.length - (intOf i).toNat)
    case atStart => exact ⟨0, Nat.zero_le _, rfl, Below.refl _ _, fun j hj => absurd hj (Nat.not_lt_zero _)⟩
    case round =>
      obtain ⟨n, hn, rfl, hb, HA⟩ := hrel
      by_cases hlt : n < l.length
      · obtain ⟨b, o, rfl, hlb, c1, c2⟩ := (hp.below hb).at_ hlt
        obtain ⟨s1, s2⟩ := hF.at_ hlt
        have hbs := Nat.lt_of_lt_of_le hlb hb.size
        cases hk : keyB (prAt l n).1
        · have HS := hd (firstE_at l n hlt HA.out (by unfold stepE; rw [hk]; simp))
          have HV := hd (show stepE l n = 3 by unfold stepE; rw [hk]; rfl)
          have hC := fun W => hd (rkey_is (prAt l n).1 _ hk W (by omega))
          clear hk HA hp hF
          go_wp2_with (go_at_call 85; refine (hC _).out.mono ?_; rintro e w' ⟨rfl, rfl⟩)
          go_ret
          exact ⟨ret_int (by rw [hK.out, HS.out, HV.out]), hb.alloc hb.size _⟩
        · cases hv : valB (prAt l n).2
          · have HS := hd (firstE_at l n hlt HA.out (by unfold stepE; rw [hk, hv]; simp))
            have HV := hd (show stepE l n = 3 by unfold stepE; rw [hk, hv]; rfl)
            have hC := fun W => hd (rkey_is (prAt l n).1 _ hk W (by omega))
            have hD := fun W => hd (rval_is (prAt l n).2 _ hv W (by omega))
            clear hk hv HA hp hF
            go_wp2_with (first | (go_at_call 85; refine (hC _).out.mono ?_; rintro e w' ⟨rfl, rfl⟩) | (go_at_call 86; refine (hD _).out.mono ?_; rintro e w' ⟨rfl, rfl⟩))
            go_ret
            exact ⟨ret_int (by rw [hK.out, HS.out, HV.out]), hb.alloc hb.size _⟩
          · have hC := fun W => hd (rkey_is (prAt l n).1 _ hk W (by omega))
            have hD := fun W => hd (rval_is (prAt l n).2 _ hv W (by omega))
            by_cases h0 : 0 < n
            · obtain ⟨b', o', e', hlb', d1, d2⟩ := (hp.below hb).at_ (show n - 1 < l.length by omega)
              obtain ⟨rfl, rfl⟩ : b = b' ∧ o = o' := by simpa using e'
              clear e' d2 hlb'
              have h0i : (0 : Int) < (n : Int) := by omega
              cases hle : (Op.bytesLess (prAt l n).1.toList (prAt l (n - 1)).1.toList || (prAt l n).1.toList == (prAt l (n - 1)).1.toList)
              · have HB := one_more (p := fun j => stepE l j = 0) HA (by unfold stepE leB; rw [hk, hv, hle]; simp)
                clear hk hv HA hp hF
                go_wp2_with (first | (go_at_call 85; refine (hC _).out.mono ?_; rintro e w' ⟨rfl, rfl⟩) | (go_at_call 86; refine (hD _).out.mono ?_; rintro e w' ⟨rfl, rfl⟩))
                go_quiet (fail)
                go_wp2
                go_roundw
                case rel => exact ⟨n + 1, by omega, by go_num, below_drewN (hb.alloc hb.size _) _, HB⟩
                case measure => simp [intOf]; omega
              · have HV := hd (show stepE l n = 1 by unfold stepE leB; rw [hk, hv, hle]; simp [h0])
                have HS := hd (firstE_at l n hlt HA.out (by rw [HV.out]; decide))
                clear hk hv HA hp hF
                go_wp2_with (first | (go_at_call 85; refine (hC _).out.mono ?_; rintro e w' ⟨rfl, rfl⟩) | (go_at_call 86; refine (hD _).out.mono ?_; rintro e w' ⟨rfl, rfl⟩))
                go_quiet (fail)
                go_wp2
                go_ret
                exact ⟨ret_int (by rw [hK.out, HS.out, HV.out]), below_drewN (hb.alloc hb.size _) _⟩
            · have h0i : decide ((0 : Int) < (n : Int)) = false := dec_no (by omega)
              have HB := one_more (p := fun j => stepE l j = 0) HA (by unfold stepE; rw [hk, hv, dec_no h0]; simp)
              clear hk hv HA hp hF
              go_wp2_with (first | (go_at_call 85; refine (hC _).out.mono ?_; rintro e w' ⟨rfl, rfl⟩) | (go_at_call 86; refine (hD _).out.mono ?_; rintro e w' ⟨rfl, rfl⟩))
              go_quiet (fail)
              go_wp2
              go_roundw
              case rel => exact ⟨n + 1, by omega, by go_num, below_drewN (hb.alloc hb.size _) _, HB⟩
              case measure => simp [intOf]; omega
      · have HF := hd (firstE_none l (fun j hj => HA.out j (by omega)))
        clear HA hp hF
        go_wp2
        go_ret
        exact ⟨ret_int (by rw [hK.out, HF.out]), hb⟩

end Go.Proofs.YtknkclbjocfhiaaDoor
