/- The walk of GlyphQuotes: whatever the input, it answers true, and old memory stays as it was. -/
import Derived.Test.YtnbcnljegkemiaaDoorGRUnq
import Derived.Test.YtnbcnljegkemiaaDoorGBack
namespace Go.Proofs.YtnbcnljegkemiaaDoor
open Go.RowKit

theorem rquote_is (A : Option Addr) (l : List Int) (n c : Nat) (S : ByteArray) (e : Int) (hS : bs (quoR l) = S) (he : chkL l = e) (w : World) (hn : l.length = n) (hl : n ≤ 1000) (hp : VL w w.heap.size A (rv l)) :
    Calls Tryd.prog 22 #[.slice A n c] w (Still (.tuple #[.string S, .int .i64 e]) w) := by
  subst hS he
  exact rquote_any A l n c w hn hl hp
theorem unqA_len (m : Nat) (s : List UInt8) (hm : s.length ≤ m) (p : Nat) (out : List Int) : (unqA s p out).1.length ≤ out.length + s.length := by
  obtain ⟨x, q, e, h⟩ : ∃ x q e, unqA s p out = (x, q, e) := ⟨_, _, _, rfl⟩
  rw [h]
  by_cases he : e = 0
  · subst he
    obtain ⟨l, e1, _, _, e4⟩ := unqA_inv m s hm p out x q h
    have := bodyL_ge l
    rw [e1, e4]; simp; omega
  · obtain ⟨e1, _⟩ := unqA_err m s hm p out x q e h he
    rw [e1]; simp
theorem unqL_len (s : List UInt8) : (unqL s).1.length ≤ s.length := by
  cases s with
  | nil => simp [unqL]
  | cons b r =>
    rw [unqL_cons]
    split
    · have := unqA_len r.length r (Nat.le_refl _) 1 []
      simp at this ⊢; omega
    · simp

set_option maxRecDepth 100000 in
set_option maxHeartbeats 16000000 in
theorem quotes_any (A : Option Addr) (l : List Int) (n c : Nat) (s : ByteArray) (w : World) (hT : Hid (Tab w)) (hn : l.length = n) (hl : n ≤ 9223372036854775807) (hs : s.size ≤ 9223372036854775807) (hp : VL w w.heap.size A (rv l)) :
    Calls Tryd.prog 4 #[.slice A n c, .string s] w (AllTrue w) := by
  have HP := hd hp
  have HN := hd hn
  clear hp hn
  by_cases hlong : 200 < n
  · go_enter Tryd.func4, Tryd.ntmps4
    go_wp2_with fail
    refine (live_any _ hT).mono ?_
    rintro e w1 ⟨rfl, hb1⟩
    go_wp2
    go_ret
    exact ⟨rfl, hb1⟩
  · have hl200 : n ≤ 200 := by omega
    clear hlong
    by_cases hlong : 400 < s.size
    · go_enter Tryd.func4, Tryd.ntmps4
      go_wp2_with fail
      refine (live_any _ hT).mono ?_
      rintro e w1 ⟨rfl, hb1⟩
      go_wp2
      go_ret
      exact ⟨rfl, hb1⟩
    · have hs400 : s.size ≤ 400 := by omega
      clear hlong
      obtain ⟨x, p, er, hr⟩ : ∃ x p e, unqL s.data.toList = (x, p, e) := ⟨_, _, _, rfl⟩
      obtain ⟨m, hm⟩ : ∃ m, x.length = m := ⟨_, rfl⟩
      have hm4 : m ≤ 400 := by
        have := unqL_len s.data.toList
        rw [hr, data_len, hm] at this
        omega
      obtain ⟨S, hS⟩ : ∃ S, bs (quoR l) = S := ⟨_, rfl⟩
      obtain ⟨q, hq⟩ : ∃ q, chkL l = q := ⟨_, rfl⟩
      have HR := hd hr
      have HM := hd hm
      have HS := hd hS
      have HQ := hd hq
      have HSe := hd (sameL_self x)
      clear hr hm hS hq
      go_enter Tryd.func4, Tryd.ntmps4
      go_wp2_with fail
      refine (live_any _ hT).mono ?_
      rintro e w1 ⟨rfl, hb1⟩
      have HT1 := hd (hT.out.below hb1)
      go_wp2_with fail
      refine (quote_is A l n c S q HS.out HQ.out w1 HT1 HN.out (by omega) (HP.out.later hb1)).mono ?_
      rintro e w2 ⟨rfl, hb2⟩
      have hb2 := hb1.trans (hb2.mono hb1.size)
      go_wp2_with fail
      refine (rquote_is A l n c S q HS.out HQ.out w2 HN.out (by omega) (HP.out.later hb2)).mono ?_
      rintro e w3 ⟨rfl, hb3⟩
      have hb3 := hb2.trans (hb3.mono hb2.size)
      go_wp2_with fail
      refine (unquote_any s w3 (by omega)).mono ?_
      intro e w4 h4
      obtain ⟨A4, c4, rfl, _, v4, hb4⟩ := h4.own x p er m HR.out HM.out
      have HV4 := hd v4
      have hb4 := hb3.trans (hb4.mono hb3.size)
      clear v4 h4
      go_wp2_with fail
      refine (runquote_any s w4 (by omega)).mono ?_
      intro e w5 h5
      obtain ⟨A5, c5, rfl, _, v5, hb5⟩ := h5.own x p er m HR.out HM.out
      have HV5 := hd v5
      have HV4 := hd (HV4.out.later hb5)
      have hb5 := hb4.trans (hb5.mono hb4.size)
      clear v5 h5
      go_wp2_with fail
      refine (calls_still (rsame_any A4 A5 x x m m c4 c5 true HSe.out w5 HM.out HM.out (by omega) (by omega) HV4.out HV5.out)).mono ?_
      rintro e w6 ⟨rfl, hb6⟩
      have hb6 := hb5.trans (hb6.mono hb5.size)
      go_wp2
      go_ret
      exact ⟨rfl, hb6⟩

end Go.Proofs.YtnbcnljegkemiaaDoor
