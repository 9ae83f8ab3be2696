/- CodeParses answers true. -/
import Derived.Test.YtknkclbjocfhiaaDoorCLaw
import Derived.Test.YtknkclbjocfhiaaDoorCDocRead
namespace Go.Proofs.YtknkclbjocfhiaaDoor
open Go.RowKit

theorem rparse_call (S : ByteArray) (m : NT) (q : Nat) (p er : Int) (hr : parseL S.data.toList = (m, q, er)) (hp : p = (q : Int)) (hs : S.size ≤ 40000) (w : World) : Calls Tryd.prog 14 #[.string S] w (Parsed m p er w) := by
  refine (rparse_any S w hs).mono ?_
  rintro e w' ⟨u, d, rfl, ht, hb⟩
  rw [hr] at *
  have hn := ht.at_ (B := w'.heap.size) fun b hb => hb.2
  obtain ⟨lf, PA, np, pc, TA, nt, tc, KA, nk, kc, rfl⟩ := hn.val
  exact ⟨_, _, _, _, _, _, _, _, _, _, d, by rw [hp], hn, hb⟩

set_option maxRecDepth 4000 in
set_option maxHeartbeats 8000000 in
theorem parses_any (s : ByteArray) (w : World) (hT : Hid (Tab w)) (hsz : s.size ≤ 9223372036854775807) : Calls Tryd.prog 4 #[.string s] w (Still (.bool true) w) := by
  have HL := hd (live6_any w hT)
  obtain ⟨m, q, er, hr⟩ : ∃ m q er, parseL s.data.toList = (m, q, er) := ⟨_, _, _, rfl⟩
  obtain ⟨p, hp⟩ : ∃ p : Int, p = (q : Int) := ⟨_, rfl⟩
  go_enter Tryd.func4, Tryd.ntmps4
  go_wp2_with fail
  refine HL.out.mono ?_
  rintro e w2 ⟨rfl, b2⟩
  by_cases h300 : 300 < s.size
  · have h3 : (300 : Int) < (s.size : Int) := by omega
    go_wp2
    go_ret
    exact ⟨rfl, b2⟩
  have h3 : decide (300 < s.size) = false := decide_eq_false h300
  have hs3 : s.size ≤ 300 := by omega
  have HP := hd (fun X => parse_call s _ rfl m q p er hr hp (by omega) X)
  have HRP := hd (fun X => rparse_call s m q p er hr hp (by omega) X)
  have HB2 := hd b2
  clear hr hp h300 hsz b2
  go_wp2_with fail
  refine (HP.out _).mono ?_
  intro e w3 h3'
  obtain ⟨lf3, PA3, np3, pc3, TA3, nt3, tc3, KA3, nk3, kc3, d3, rfl, hn3, b3⟩ := h3'
  have HB3 := hd (HB2.out.trans (b3.mono HB2.out.size))
  have HN3 := hd hn3
  clear hn3 b3
  go_upto_region 6 with fail
  generalize hWx : World.alloc w3 _ = w4
  have hbx : Below w3.heap.size w3 w4 := hWx ▸ (Below.refl _ _).alloc (Nat.le_refl _) _
  have HXx := hd (hWx ▸ V4.new w3 (.bool lf3) (.slice PA3 np3 pc3) (.slice TA3 nt3 tc3) (.slice KA3 nk3 kc3))
  obtain ⟨g4, hgx⟩ : ∃ g4, g4 = w3.heap.size := ⟨_, rfl⟩
  rw [← hgx] at HXx ⊢
  clear hgx hWx
  have HB4 := hd (HB3.out.trans (hbx.mono HB3.out.size))
  have HN4 := hd (HN3.out.later hbx)
  have HX4 := hd HXx.out
  clear hbx HXx
  go_wp2_with fail
  refine (HRP.out _).mono ?_
  intro e w5 h5'
  obtain ⟨lf5, PA5, np5, pc5, TA5, nt5, tc5, KA5, nk5, kc5, d5, rfl, hn5, b5⟩ := h5'
  have HB5 := hd (HB4.out.trans (b5.mono HB4.out.size))
  have HN5 := hd hn5
  have HX5 := hd (HX4.out.below b5)
  have HN45 := hd (HN4.out.later b5)
  clear hn5 b5
  go_upto_region 7 with fail
  generalize hWx : World.alloc w5 _ = w6
  have hbx : Below w5.heap.size w5 w6 := hWx ▸ (Below.refl _ _).alloc (Nat.le_refl _) _
  have HXx := hd (hWx ▸ V4.new w5 (.bool lf5) (.slice PA5 np5 pc5) (.slice TA5 nt5 tc5) (.slice KA5 nk5 kc5))
  obtain ⟨g6, hgx⟩ : ∃ g6, g6 = w5.heap.size := ⟨_, rfl⟩
  rw [← hgx] at HXx ⊢
  clear hgx hWx
  have HB6 := hd (HB5.out.trans (hbx.mono HB5.out.size))
  have HN6 := hd (HN5.out.later hbx)
  have HN46 := hd (HN45.out.later hbx)
  have HX6 := hd (HX5.out.below hbx)
  have HY6 := hd HXx.out
  clear hbx HXx
  have HSM := hd (rnsame_any _ _ w6 _ _ m m HN46.out HN6.out)
  rw [eqT_self] at HSM
  obtain ⟨x0, x1, x2, x3⟩ := HX6.out.cells
  obtain ⟨y0, y1, y2, y3⟩ := HY6.out.cells
  have hpp : (p == p) = true := by simp
  have hee : (er == er) = true := by simp
  go_wp2_with fail
  refine HSM.out.mono ?_
  rintro e w7 ⟨rfl, b7⟩
  have HB7 := hd (HB6.out.trans (b7.mono HB6.out.size))
  clear b7 x0 x1 x2 x3 y0 y1 y2 y3
  go_wp2
  go_ret
  exact ⟨rfl, HB7.out⟩

end Go.Proofs.YtknkclbjocfhiaaDoor
