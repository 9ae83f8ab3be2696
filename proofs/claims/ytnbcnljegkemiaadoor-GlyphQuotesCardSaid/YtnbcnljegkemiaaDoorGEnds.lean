/- The walk of GlyphEnds: whatever the input, it answers true, and old memory stays as it was. -/
import Derived.Test.YtnbcnljegkemiaaDoorGLive
namespace Go.Proofs.YtnbcnljegkemiaaDoor
open Go.RowKit

theorem byte_str (B : UInt8) (W : World) : (convert 40 9 (.slice (some ⟨W.heap.size, 0, none⟩) 1 1)).run Tryd.prog (W.alloc (.cells #[.int .u8 B.toNat] 5)) = .ok (.string (bs [B])) (W.alloc (.cells #[.int .u8 B.toNat] 5)) :=
  str_of (l := [B]) (VL_new W 5 (bv [B])) rfl (by omega)
theorem bs_append (a b : List UInt8) : bs a ++ bs b = bs (a ++ b) := ByteArray.mk_append_mk a b
theorem bs_take (l : List UInt8) (n : Nat) : (bs l).extract 0 n = bs (l.take n) := by
  show (ByteArray.mk l.toArray).extract 0 n = ByteArray.mk (l.take n).toArray
  rw [ByteArray.extract_mk]; simp
theorem unq_call (l : List UInt8) (w : World) (r : List Int × Int × Int) (hr : unqL l = r) (hl : l.length ≤ 40000) : Calls Tryd.prog 23 #[.string (bs l)] w (UnqOk r w) := by
  subst hr
  exact unquote_any (bs l) w (by rw [bs_size]; exact hl)
theorem UnqOk.own {w w' : World} {r : List Int × Int × Int} {e : Ending} (h : UnqOk r w e w') (l : List Int) (p er : Int) (n : Nat) (hr : r = (l, p, er)) (hn : l.length = n) :
    ∃ A c, e = .returned (.tuple #[.slice A n c, .int .i64 p, .int .i64 er]) ∧ n ≤ c ∧ VL w' w'.heap.size A (rv l) ∧ Below w.heap.size w w' := by
  subst hr
  obtain ⟨v, he, ho, hb⟩ := h
  obtain ⟨A, c, rfl, h1, _, h2, _⟩ := ho.open_at n (by rw [rv_len]; exact hn)
  exact ⟨A, c, he, h1, h2, hb⟩

set_option maxRecDepth 100000 in
set_option maxHeartbeats 8000000 in
theorem ends_any (A : Option Addr) (l : List Int) (n c : Nat) (B : UInt8) (w : World) (hT : Hid (Tab w)) (hn : l.length = n) (hl : n ≤ 9223372036854775807) (hp : VL w w.heap.size A (rv l)) :
    Calls Tryd.prog 8 #[.slice A n c, .int .u8 B.toNat] w (AllTrue w) := by
  have HP := hd hp
  have HN := hd hn
  clear hp hn
  by_cases hlong : 200 < n
  · go_enter Tryd.func8, Tryd.ntmps8
    go_wp2_with fail
    refine (live_any _ hT).mono ?_
    rintro e w1 ⟨rfl, hb1⟩
    go_wp2
    go_ret
    exact ⟨rfl, hb1⟩
  · have hl200 : n ≤ 200 := by omega
    clear hlong
    cases hk : okR l
    · have HQ := hd (show quoR l = [] by unfold quoR; rw [hk]; rfl)
      have HG := hd (show chkL l = 4 by unfold chkL; rw [hk]; rfl)
      clear hk
      go_enter Tryd.func8, Tryd.ntmps8
      go_wp2_with fail
      refine (live_any _ hT).mono ?_
      rintro e w1 ⟨rfl, hb1⟩
      have HT1 := hd (hT.out.below hb1)
      go_wp2_with fail
      refine (quote_any A l n c w1 HT1 HN.out (by omega) (HP.out.later hb1)).mono ?_
      intro e w2 h2
      obtain ⟨he, hb2⟩ := h2
      rw [HQ.out, HG.out] at he
      subst he
      have hb2 := hb1.trans (hb2.mono hb1.size)
      have hz : (bs []).toList = [] := bs_toList []
      go_wp2
      go_ret
      exact ⟨rfl, hb2⟩
    · have HQ := hd (show quoR l = quoL l by unfold quoR; rw [hk]; rfl)
      have HG := hd (show chkL l = 0 by unfold chkL; rw [hk]; rfl)
      have hb8 := bodyL_len l hk
      have hql := quoL_len l
      have u1 := unqL_more l B hk
      have u2 := unqL_less l hk
      have u3 := unqL_with l B
      have hln := HN.out
      obtain ⟨S, hS⟩ : ∃ S, S = bs (quoL l) := ⟨_, rfl⟩
      obtain ⟨X, hX⟩ : ∃ X, X = bs [B] := ⟨_, rfl⟩
      have hSs : S.size = (quoL l).length := by rw [hS, bs_size]
      have hXs : X.size = 1 := by rw [hX, bs_size]; rfl
      have s1 : 2 ≤ S.size := by omega
      have s2 : S.size ≤ 2000 := by omega
      have s3 : X.size ≤ 1 := by omega
      have s4 : ¬ (S.size + X.size > 9223372036854775807) := by omega
      have s5 : ¬ (X.size + S.size > 9223372036854775807) := by omega
      have C1 : Hid (∀ W, Calls Tryd.prog 23 #[.string (S ++ X)] W (UnqOk ([], (S.size : Int), 11) W)) := hd (fun W => by
        rw [hS, hX, bs_append]
        exact unq_call _ W _ (by rw [u1, bs_size]) (by simp; omega))
      have C2 : Hid (∀ W, Calls Tryd.prog 23 #[.string (S.extract 0 (S.size - 1))] W (UnqOk ([], (S.size : Int) - 1, 11) W)) := hd (fun W => by
        rw [hSs, hS, bs_take]
        exact unq_call _ W _ u2 (by simp; omega))
      have C3 : Hid (∀ W, Calls Tryd.prog 23 #[.string (X ++ S)] W (UnqOk ([], if B = 34 then 2 else 0, 11) W)) := hd (fun W => by
        rw [hS, hX, bs_append]
        exact unq_call _ W _ u3 (by simp; omega))
      have HQ2 := hd (show bs (quoR l) = S by rw [HQ.out, hS])
      have hby := fun W => byte_str B W
      rw [← hX] at hby
      clear hk hb8 hql u1 u2 u3 hln hSs hXs hS hX HQ
      go_enter Tryd.func8, Tryd.ntmps8
      go_wp2_with fail
      refine (live_any _ hT).mono ?_
      rintro e w1 ⟨rfl, hb1⟩
      have HT1 := hd (hT.out.below hb1)
      go_wp2_with fail
      refine (quote_any A l n c w1 HT1 HN.out (by omega) (HP.out.later hb1)).mono ?_
      intro e w2 h2
      obtain ⟨he, hb2⟩ := h2
      rw [HQ2.out, HG.out] at he
      subst he
      have hb2 := hb1.trans (hb2.mono hb1.size)
      have hb3 := hb2.alloc hb2.size (.cells #[.int .u8 B.toNat] 5)
      have hz3 : (w2.alloc (.cells #[.int .u8 B.toNat] 5)).heap.size = w2.heap.size + 1 := by simp
      go_wp2_with fail
      refine (C1.out _).mono ?_
      intro e w3 h3
      obtain ⟨A3, c3, rfl, _, _, hb4⟩ := h3.own _ _ _ 0 rfl rfl
      have hb4 := hb3.trans (hb4.mono hb3.size)
      go_wp2_with fail
      refine (C2.out _).mono ?_
      intro e w4 h4
      obtain ⟨A4, c4, rfl, _, _, hb5⟩ := h4.own _ _ _ 0 rfl rfl
      have hb5 := hb4.trans (hb5.mono hb4.size)
      by_cases hB : B = 34
      · have C3 := hd (C3.out w4)
        rw [if_pos hB] at C3
        have hx : (B.toNat : Int) = 34 := by rw [hB]; rfl
        clear hB hb1 hb2 hb3
        go_wp2_with fail
        refine C3.out.mono ?_
        intro e w5 h5
        obtain ⟨A5, c5, rfl, _, _, hb6⟩ := h5.own _ _ _ 0 rfl rfl
        have hb6 := hb5.trans (hb6.mono hb5.size)
        go_wp2
        go_ret
        exact ⟨rfl, hb6⟩
      · have C3 := hd (C3.out w4)
        rw [if_neg hB] at C3
        have hq : (B.toNat : Int) ≠ 34 := fun e => hB (byte_eq (by rw [e]; rfl))
        have g3 : ((B.toNat : Int) == 34) = false := by simpa using hq
        have g4 : ((B.toNat : Int) != 34) = true := by simpa using hq
        clear hB hb1 hb2 hb3 hq
        go_wp2_with fail
        refine C3.out.mono ?_
        intro e w5 h5
        obtain ⟨A5, c5, rfl, _, _, hb6⟩ := h5.own _ _ _ 0 rfl rfl
        have hb6 := hb5.trans (hb6.mono hb5.size)
        go_wp2
        go_ret
        exact ⟨rfl, hb6⟩

end Go.Proofs.YtnbcnljegkemiaaDoor
