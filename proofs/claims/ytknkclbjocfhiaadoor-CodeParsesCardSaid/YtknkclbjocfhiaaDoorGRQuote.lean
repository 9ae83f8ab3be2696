/- The document's Quote. -/
import Derived.Test.YtknkclbjocfhiaaDoorGRef
namespace Go.Proofs.YtknkclbjocfhiaaDoor
open Go.RowKit

theorem nat_str (n : Nat) (hn : n < 256) (W : World) : (convert 39 9 (.slice (some ⟨W.heap.size, 0, none⟩) 1 1)).run Tryd.prog (W.alloc (.cells #[.int .u8 (n : Int)] 5)) = .ok (.string (bs [UInt8.ofNat n])) (W.alloc (.cells #[.int .u8 (n : Int)] 5)) := by
  have := byte_str (UInt8.ofNat n) W
  rwa [show (UInt8.ofNat n).toNat = n by simp; omega] at this

set_option maxRecDepth 100000 in
set_option maxHeartbeats 4000000 in
theorem rquote_any (A : Option Addr) (l : List Int) (n c : Nat) (w : World) (hn : l.length = n) (hl : n ≤ 1000) (hp : VL w w.heap.size A (rv l)) :
    Calls Tryd.prog 50 #[.slice A n c] w (QuoOk l w) := by
  have HP := hd hp
  have HN := hd hn
  have HC := hd (rcheck_any A l n c w hn (by omega) hp)
  unfold chkL at HC
  clear hp hn
  cases hk : okR l
  · have HF := hd (show quoR l = [] by unfold quoR; rw [hk]; rfl)
    have HG := hd (show chkL l = 4 by unfold chkL; rw [hk]; rfl)
    rw [hk] at HC
    clear hk
    go_enter Tryd.func50, Tryd.ntmps50
    go_wp2_with fail
    refine HC.out.mono ?_
    rintro e w' ⟨rfl, rfl⟩
    go_wp2
    go_ret2
    exact quo_ret HF.out HG.out (Below.refl _ _)
  · have HF := hd (show quoR l = 34 :: bodyL l ++ [34] by unfold quoR; rw [hk]; rfl)
    have HG := hd (show chkL l = 0 by unfold chkL; rw [hk]; rfl)
    have HK := hd ((okR_iff l).1 hk)
    have HB : Hid (∀ k, (bodyL (l.take k)).length ≤ 8000) := hd (fun k => by
      have h1 := bodyL_len (l.take k) (okR_take hk k)
      have h2 : (l.take k).length ≤ l.length := List.length_take_le' _ _
      have := HN.out
      omega)
    rw [hk] at HC
    clear hk
    have H0 := hd (show (⟨#[34]⟩ : ByteArray) = bs (34 :: bodyL (l.take 0)) from rfl)
    go_enter Tryd.func50, Tryd.ntmps50
    go_wp2_with fail
    refine HC.out.mono ?_
    rintro e w' ⟨rfl, rfl⟩
    go_wp2_with fail
    go_loopw [5, 15] (fun v i wr => ∃ (k : Nat) (S : ByteArray), k ≤ n ∧ i = .int .i64 k ∧ v = .string S ∧ Hid (S = bs (34 :: bodyL (l.take k))) ∧ Below w.heap.size w wr) (fun _ i _ => n - (intOf i).toNat)
    case atStart => exact ⟨0, _, Nat.zero_le _, rfl, rfl, H0, Below.refl _ _⟩
    case round =>
      obtain ⟨k, S, hk, rfl, rfl, HS, hb⟩ := hrel
      have hSz : S.size ≤ 8001 := by rw [HS.out, bs_size]; have := HB.out k; simp; omega
      by_cases hlt : k < n
      · obtain ⟨b, o, rfl, hbl, hc⟩ := (HP.out.below hb).rune (k := k) (by have := HN.out; omega)
        have hR := HK.out k (by have := HN.out; omega)
        have HX := hd (bodyL_take l k (by have := HN.out; omega))
        obtain ⟨m, hm⟩ : ∃ m : Nat, atL l k = m := ⟨(atL l k).toNat, by rw [isR_iff] at hR; omega⟩
        rw [hm] at hR hc HX
        have hm2 : m ≤ 1114111 := by rw [isR_iff] at hR; omega
        have HPl := hd (plain_any (m : Int) wr)
        clear hm hR
        cases hp : isP m
        · have HE := hd (show escL m = [92] ++ hexL m ++ [59] by unfold escL; rw [hp]; simp)
          obtain ⟨Z, hZ⟩ : ∃ Z, Z = bs (hexL m) := ⟨_, rfl⟩
          have HH := hd (hex_any m wr (by omega))
          rw [← hZ] at HH
          rw [hp] at HPl
          have hZs : Z.size ≤ 6 := by rw [hZ, bs_size]; exact hexL_six m hm2
          obtain ⟨Y, hY⟩ : ∃ Y, Y = bs [92] ++ Z := ⟨_, rfl⟩
          obtain ⟨X, hX⟩ : ∃ X, X = Y ++ bs [59] := ⟨_, rfl⟩
          have e1 : (⟨#[92]⟩ : ByteArray) ++ Z = Y := hY.symm
          have e2 : Y ++ (⟨#[59]⟩ : ByteArray) = X := hX.symm
          have hYs : Y.size ≤ 7 := by rw [hY, hZ, bs_append, bs_size]; have := hexL_six m hm2; simp; omega
          have hXs : X.size ≤ 8 := by rw [hX, hY, hZ, bs_append, bs_append, bs_size]; have := hexL_six m hm2; simp; omega
          have s1 : ¬ ((⟨#[92]⟩ : ByteArray).size + Z.size > 9223372036854775807) := by
            have : (⟨#[92]⟩ : ByteArray).size = 1 := rfl
            omega
          have s2 : ¬ (Y.size + (⟨#[59]⟩ : ByteArray).size > 9223372036854775807) := by
            have : (⟨#[59]⟩ : ByteArray).size = 1 := rfl
            omega
          have s3 : ¬ (S.size + X.size > 9223372036854775807) := by omega
          have HS2 := hd (show S ++ X = bs (34 :: bodyL (l.take (k + 1))) by
            rw [HX.out, HE.out, HS.out, hX, hY, hZ, bs_append, bs_append, bs_append]; simp)
          clear hp hX hY hZ
          go_wp2_with (first | (go_at_call 72; refine HPl.out.mono ?_; rintro e w' ⟨rfl, rfl⟩) | (go_at_call 73; refine HH.out.mono ?_; rintro e w' ⟨rfl, rfl⟩))
          go_roundw
          case rel => exact ⟨k + 1, S ++ X, by omega, by go_num, rfl, HS2, hb⟩
          case measure => simp [intOf]; omega
        · have hpp := (isP_iff m).1 hp
          have m1 : m ≤ 126 := by omega
          have m2 : 32 ≤ m := by omega
          have HE := hd (show escL m = [UInt8.ofNat m] by unfold escL; rw [hp]; simp)
          rw [hp] at HPl
          obtain ⟨X, hX⟩ : ∃ X, X = bs [UInt8.ofNat m] := ⟨_, rfl⟩
          have hXs : X.size ≤ 1 := by rw [hX, bs_size]; simp
          have s3 : ¬ (S.size + X.size > 9223372036854775807) := by omega
          have HS2 := hd (show S ++ X = bs (34 :: bodyL (l.take (k + 1))) by
            rw [HX.out, HE.out, HS.out, hX, bs_append]; simp)
          have hcv := fun W => nat_str m (by omega) W
          rw [← hX] at hcv
          have hb2 := hb.alloc hb.size (.cells #[.int .u8 (m : Int)] 5)
          clear hp hX hpp
          go_wp2_with (go_at_call 72; refine HPl.out.mono ?_; rintro e w' ⟨rfl, rfl⟩)
          go_roundw
          case rel => exact ⟨k + 1, S ++ X, by omega, by go_num, rfl, HS2, hb2⟩
          case measure => simp [intOf]; omega
      · have HX := hd (show l.take k = l from List.take_of_length_le (by have := HN.out; omega))
        have hlt' : decide (k < n) = false := decide_eq_false hlt
        have s3 : ¬ (S.size + (⟨#[34]⟩ : ByteArray).size > 9223372036854775807) := by
          have : (⟨#[34]⟩ : ByteArray).size = 1 := rfl
          omega
        obtain ⟨X, hX⟩ : ∃ X, X = S ++ (⟨#[34]⟩ : ByteArray) := ⟨_, rfl⟩
        have HS2 := hd (show X = bs (quoR l) by
          rw [HF.out, hX, HS.out, HX.out]
          exact bs_append (34 :: bodyL l) [34])
        have hXe := hX.symm
        clear hlt hX
        go_wp2
        go_ret2
        exact ⟨by rw [← HS2.out, HG.out] <;> rfl, hb⟩

end Go.Proofs.YtknkclbjocfhiaaDoor
