/- The walk of TrailBack: whatever the input, it answers true, and old memory stays as it was. -/
import Derived.Test.YtpjibfopfdbnjaaLevels
namespace Go.Proofs.Ytpjibfopfdbnjaa
open Go.RowKit

theorem NewE.open_ {w w' : World} {r : List Int × Int} {e : Ending} (h : NewE w r e w') (l : List Int) (er : Int) (n : Nat) (hr : r = (l, er)) (hn : l.length = n) :
    ∃ A c, e = .returned (.tuple #[.slice A n c, .int .i64 er]) ∧ n ≤ c ∧ IL w' w'.heap.size A l ∧ Below w.heap.size w w' := by
  subst hr
  obtain ⟨v, he, ho, hb⟩ := h
  obtain ⟨A, c, rfl, h1, h2⟩ := ho.open_at n hn
  exact ⟨A, c, he, h1, h2, hb⟩
/-- The numbers of a path are ints. -/
def Ints (l : List Int) : Prop := ∀ k, k < l.length → iAt l k ≤ 9223372036854775807 ∧ -9223372036854775808 ≤ iAt l k
theorem Ints.set {l : List Int} (h : Ints l) (k : Nat) (v : Int) (h1 : v ≤ 9223372036854775807) (h2 : -9223372036854775808 ≤ v) : Ints (l.set k v) := by
  intro j hj
  have hj' : j < l.length := by simpa using hj
  rw [iAt_eq _ j hj, List.getElem_set]
  split
  · exact ⟨h1, h2⟩
  · have := h j hj'
    rwa [iAt_eq _ j hj'] at this

set_option maxHeartbeats 16000000 in
theorem backlaw_any (A : Option Addr) (l : List Int) (n c : Nat) (w : World) (hn : l.length = n) (hl : n ≤ 9223372036854775807) (hc : n ≤ c) (hW : Ints l) (hp : IL w w.heap.size A l) :
    Calls Try.prog 6 #[.slice A n c] w (AllTrue w) := by
  have HP := hd hp
  have HW := hd hW
  have HN := hd hn
  have hsh : ∀ W r, shortB 1 (fun _ => l) = r → Calls Try.prog 9 #[.slice (some ⟨W.heap.size, 0, none⟩) 1 1] (W.alloc (.cells #[.slice A n c] 22)) (Still (.bool r) W) := fun W r hr => by
    subst hn
    exact short1 A l c W hl r hr
  have HSh := hd hsh
  clear hp hW hn hsh
  cases hs : shortB 1 (fun _ => l)
  · have HS := hd hs
    clear hs
    go_enter Try.func6, Try.ntmps6
    go_wp2_with fail
    refine (live_any _).mono ?_
    rintro e w1 ⟨rfl, hb1⟩
    go_wp2_with fail
    refine (HSh.out w1 _ HS.out).mono ?_
    rintro e w2 ⟨rfl, hb2⟩
    go_wp2_with fail
    go_ret
    exact ⟨rfl, hb1.trans (hb2.mono hb1.size)⟩
  · have HS := hd hs
    have s1 : n ≤ 100 := by have := (shortB_iff _ _).1 hs 0 (by omega); have := HN.out; omega
    clear hs
    rcases n with _ | k
    · have HF := hd (show parentL l = ([], 6) by unfold parentL; rw [if_pos HN.out])
      have HG := hd (show nextL l = ([], 6) by unfold nextL; rw [if_pos HN.out])
      go_enter Try.func6, Try.ntmps6
      go_wp2_with fail
      refine (live_any _).mono ?_
      rintro e w1 ⟨rfl, hb1⟩
      go_wp2_with fail
      refine (HSh.out w1 _ HS.out).mono ?_
      rintro e w2 ⟨rfl, hb2⟩
      have hb2 := hb1.trans (hb2.mono hb1.size)
      go_wp2_with fail
      refine (parent_any A l 0 c w2 HN.out (by omega) (by omega) (HP.out.later hb2)).mono ?_
      intro e w3 h3
      obtain ⟨A3, c3, rfl, q3, p3, hb3⟩ := h3.open_ _ _ 0 HF.out rfl
      have hb3 := hb2.trans (hb3.mono hb2.size)
      go_wp2_with fail
      refine (next_any A l 0 c w3 HN.out (by omega) HW.out (HP.out.later hb3)).mono ?_
      intro e w4 h4
      obtain ⟨A4, c4, rfl, q4, p4, hb4⟩ := h4.open_ _ _ 0 HG.out rfl
      have hb4 := hb3.trans (hb4.mono hb3.size)
      go_wp2_with fail
      go_ret
      exact ⟨rfl, hb4⟩
    · have hwk := HW.out k (by have := HN.out; omega)
      have hpar : parentL l = (l.take k, 0) := by unfold parentL; rw [if_neg (by have := HN.out; omega), HN.out]; rfl
      have HF := hd hpar
      have hlk : (l.take k).length = k := by have := HN.out; simp; omega
      have HLk := hd hlk
      have HAb := hd (take_above l k (by have := HN.out; omega))
      have hle := last_eq l k HN.out
      by_cases hm : iAt l k = 9223372036854775807
      · have HG := hd (show nextL l = ([], 8) by unfold nextL; rw [if_neg (by have := HN.out; omega), if_pos (by omega)])
        have hmx : (iAt l k == 9223372036854775807) = true := by simp [hm]
        clear hm hle hlk hpar
        go_enter Try.func6, Try.ntmps6
        go_wp2_with fail
        refine (live_any _).mono ?_
        rintro e w1 ⟨rfl, hb1⟩
        go_wp2_with fail
        refine (HSh.out w1 _ HS.out).mono ?_
        rintro e w2 ⟨rfl, hb2⟩
        have hb2 := hb1.trans (hb2.mono hb1.size)
        go_wp2_with fail
        refine (parent_any A l (k + 1) c w2 HN.out (by omega) (by omega) (HP.out.later hb2)).mono ?_
        intro e w3 h3
        obtain ⟨A3, c3, rfl, q3, p3, hb3⟩ := h3.open_ _ _ k HF.out HLk.out
        have HP3 := hd p3
        have hb3 := hb2.trans (hb3.mono hb2.size)
        clear h3 p3
        go_wp2_with fail
        refine (next_any A l (k + 1) c w3 HN.out (by omega) HW.out (HP.out.later hb3)).mono ?_
        intro e w4 h4
        obtain ⟨A4, c4, rfl, q4, p4, hb4⟩ := h4.open_ _ _ 0 HG.out rfl
        have HP4 := hd (HP3.out.later hb4)
        have hb4 := hb3.trans (hb4.mono hb3.size)
        clear h4 p4
        go_wp2_with fail
        refine (calls_still (above_is A3 A (l.take k) l k (k + 1) c3 c true HAb.out w4 HLk.out HN.out (by have := HLk.out; omega) (by have := HN.out; omega) HP4.out (HP.out.later hb4))).mono ?_
        rintro e w5 ⟨rfl, hb5⟩
        have hb5 := hb4.trans (hb5.mono hb4.size)
        obtain ⟨b, o, rfl, hbl, hcell⟩ := (HP.out.later hb5).at_ (show k < l.length by have := HN.out; omega)
        go_wp2_with fail
        go_ret
        exact ⟨rfl, hb5⟩
      · have hlt : iAt l k < 9223372036854775807 := by omega
        have hmx : (iAt l k == 9223372036854775807) = false := by simp [hm]
        have HM := hd hm
        obtain ⟨N, hNe⟩ : ∃ N, N = sib l (iAt l k + 1) := ⟨_, rfl⟩
        have hNl : N.length = k + 1 := by rw [hNe, sib_length, HN.out]
        have hNt : N.take k = l.take k := by have := sib_take l (iAt l k + 1); rw [HN.out] at this; rw [hNe]; exact this
        have hNlast : lastL N = iAt l k + 1 := by rw [hNe]; exact sib_last l _ (by have := HN.out; omega)
        have hNpar : parentL N = (l.take k, 0) := by unfold parentL; rw [if_neg (by omega), hNl, ← hNt]; rfl
        have hNl2 : leftL l N = true := by rw [hNe]; exact left_sib l _ (by have := HN.out; omega) (by rw [hle]; omega)
        have hNI : Ints N := by rw [hNe, sib_eq l k HN.out]; exact HW.out.set k _ (by omega) (by omega)
        have hNsib : sib N (iAt l k + 1 - 1) = l := by rw [hNe, sib_sib, show iAt l k + 1 - 1 = lastL l by rw [hle]; omega]; exact sib_self l
        have HG := hd (show nextL l = (N, 0) by unfold nextL; rw [if_neg (by have := HN.out; omega), hle, if_neg hm, hNe])
        have HNl := hd hNl
        have HNpar := hd hNpar
        have HNleft := hd hNl2
        have HNI := hd hNI
        have HUp := hd (show sameL (l.take k) (l.take k) = true by unfold sameL; simp)
        have HSe := hd (show sameL l l = true by unfold sameL; simp)
        by_cases hneg : iAt l k + 1 ≤ 0
        · have HB := hd (show backL N = ([], 8) by unfold backL; rw [if_neg (by omega), if_pos (by omega)])
          clear hm hle hlk hpar hNe hNl hNt hNlast hNpar hNl2 hNI hNsib
          have hlast : iAt l k < 0 := by omega
          go_enter Try.func6, Try.ntmps6
          go_wp2_with fail
          refine (live_any _).mono ?_
          rintro e w1 ⟨rfl, hb1⟩
          go_wp2_with fail
          refine (HSh.out w1 _ HS.out).mono ?_
          rintro e w2 ⟨rfl, hb2⟩
          have hb2 := hb1.trans (hb2.mono hb1.size)
          go_wp2_with fail
          refine (parent_any A l (k + 1) c w2 HN.out (by omega) (by omega) (HP.out.later hb2)).mono ?_
          intro e w3 h3
          obtain ⟨A3, c3, rfl, q3, p3, hb3⟩ := h3.open_ _ _ k HF.out HLk.out
          have HP3 := hd p3
          have hb3 := hb2.trans (hb3.mono hb2.size)
          clear h3 p3
          go_wp2_with fail
          refine (next_any A l (k + 1) c w3 HN.out (by omega) HW.out (HP.out.later hb3)).mono ?_
          intro e w4 h4
          obtain ⟨A4, c4, rfl, q4, p4, hb4⟩ := h4.open_ _ _ (k + 1) HG.out HNl.out
          have HP4 := hd (HP3.out.later hb4)
          have HN4 := hd p4
          have hb4 := hb3.trans (hb4.mono hb3.size)
          clear h4 p4
          go_wp2_with fail
          refine (calls_still (above_is A3 A (l.take k) l k (k + 1) c3 c true HAb.out w4 HLk.out HN.out (by have := HLk.out; omega) (by have := HN.out; omega) HP4.out (HP.out.later hb4))).mono ?_
          rintro e w5 ⟨rfl, hb5⟩
          have HP5 := hd (HP4.out.later hb5)
          have HN5 := hd (HN4.out.later hb5)
          have hb5 := hb4.trans (hb5.mono hb4.size)
          go_wp2_with fail
          refine (parent_any A4 N (k + 1) c4 w5 HNl.out (by omega) (by omega) HN5.out).mono ?_
          intro e w6 h6
          obtain ⟨A6, c6, rfl, q6, p6, hb6⟩ := h6.open_ _ _ k HNpar.out HLk.out
          have HP6 := hd (HP5.out.later hb6)
          have HN6 := hd (HN5.out.later hb6)
          have HQ6 := hd p6
          have hb6 := hb5.trans (hb6.mono hb5.size)
          clear h6 p6
          go_wp2_with fail
          refine (calls_still (same_is A6 A3 (l.take k) (l.take k) k k c6 c3 true HUp.out w6 HLk.out HLk.out (by have := HLk.out; omega) (by have := HLk.out; omega) HQ6.out HP6.out)).mono ?_
          rintro e w6b ⟨rfl, hb6b⟩
          have HN6b := hd (HN6.out.later hb6b)
          have hb6b := hb6.trans (hb6b.mono hb6.size)
          go_wp2_with fail
          refine (calls_still (left_is A A4 l N (k + 1) (k + 1) c c4 true HNleft.out w6b HN.out HNl.out (by have := HN.out; omega) (by have := HNl.out; omega) (HP.out.later hb6b) HN6b.out)).mono ?_
          rintro e w7 ⟨rfl, hb7⟩
          have HP7 := hd (HN6b.out.later hb7)
          have hb7 := hb6b.trans (hb7.mono hb6b.size)
          go_wp2_with fail
          refine (back_any A4 N (k + 1) c4 w7 HNl.out (by omega) HNI.out HP7.out).mono ?_
          intro e w8 h8
          obtain ⟨A8, c8, rfl, q8, p8, hb8⟩ := h8.open_ _ _ 0 HB.out rfl
          have hb8 := hb7.trans (hb8.mono hb7.size)
          clear h8 p8
          obtain ⟨b, o, rfl, hbl, hcell⟩ := (HP.out.later hb8).at_ (show k < l.length by have := HN.out; omega)
          go_wp2_with fail
          go_ret
          exact ⟨rfl, hb8⟩
        · have HB := hd (show backL N = (l, 0) by unfold backL; rw [if_neg (by omega), hNlast, if_neg hneg, hNsib])
          clear hm hle hlk hpar hNe hNl hNt hNlast hNpar hNl2 hNI hNsib hneg
          go_enter Try.func6, Try.ntmps6
          go_wp2_with fail
          refine (live_any _).mono ?_
          rintro e w1 ⟨rfl, hb1⟩
          go_wp2_with fail
          refine (HSh.out w1 _ HS.out).mono ?_
          rintro e w2 ⟨rfl, hb2⟩
          have hb2 := hb1.trans (hb2.mono hb1.size)
          go_wp2_with fail
          refine (parent_any A l (k + 1) c w2 HN.out (by omega) (by omega) (HP.out.later hb2)).mono ?_
          intro e w3 h3
          obtain ⟨A3, c3, rfl, q3, p3, hb3⟩ := h3.open_ _ _ k HF.out HLk.out
          have HP3 := hd p3
          have hb3 := hb2.trans (hb3.mono hb2.size)
          clear h3 p3
          go_wp2_with fail
          refine (next_any A l (k + 1) c w3 HN.out (by omega) HW.out (HP.out.later hb3)).mono ?_
          intro e w4 h4
          obtain ⟨A4, c4, rfl, q4, p4, hb4⟩ := h4.open_ _ _ (k + 1) HG.out HNl.out
          have HP4 := hd (HP3.out.later hb4)
          have HN4 := hd p4
          have hb4 := hb3.trans (hb4.mono hb3.size)
          clear h4 p4
          go_wp2_with fail
          refine (calls_still (above_is A3 A (l.take k) l k (k + 1) c3 c true HAb.out w4 HLk.out HN.out (by have := HLk.out; omega) (by have := HN.out; omega) HP4.out (HP.out.later hb4))).mono ?_
          rintro e w5 ⟨rfl, hb5⟩
          have HP5 := hd (HP4.out.later hb5)
          have HN5 := hd (HN4.out.later hb5)
          have hb5 := hb4.trans (hb5.mono hb4.size)
          go_wp2_with fail
          refine (parent_any A4 N (k + 1) c4 w5 HNl.out (by omega) (by omega) HN5.out).mono ?_
          intro e w6 h6
          obtain ⟨A6, c6, rfl, q6, p6, hb6⟩ := h6.open_ _ _ k HNpar.out HLk.out
          have HP6 := hd (HP5.out.later hb6)
          have HN6 := hd (HN5.out.later hb6)
          have HQ6 := hd p6
          have hb6 := hb5.trans (hb6.mono hb5.size)
          clear h6 p6
          go_wp2_with fail
          refine (calls_still (same_is A6 A3 (l.take k) (l.take k) k k c6 c3 true HUp.out w6 HLk.out HLk.out (by have := HLk.out; omega) (by have := HLk.out; omega) HQ6.out HP6.out)).mono ?_
          rintro e w6b ⟨rfl, hb6b⟩
          have HN6b := hd (HN6.out.later hb6b)
          have hb6b := hb6.trans (hb6b.mono hb6.size)
          go_wp2_with fail
          refine (calls_still (left_is A A4 l N (k + 1) (k + 1) c c4 true HNleft.out w6b HN.out HNl.out (by have := HN.out; omega) (by have := HNl.out; omega) (HP.out.later hb6b) HN6b.out)).mono ?_
          rintro e w7 ⟨rfl, hb7⟩
          have HP7 := hd (HN6b.out.later hb7)
          have hb7 := hb6b.trans (hb7.mono hb6b.size)
          go_wp2_with fail
          refine (back_any A4 N (k + 1) c4 w7 HNl.out (by omega) HNI.out HP7.out).mono ?_
          intro e w8 h8
          obtain ⟨A8, c8, rfl, q8, p8, hb8⟩ := h8.open_ _ _ (k + 1) HB.out HN.out
          have HP8 := hd p8
          have hb8 := hb7.trans (hb8.mono hb7.size)
          clear h8 p8
          go_wp2_with fail
          refine (calls_still (same_is A8 A l l (k + 1) (k + 1) c8 c true HSe.out w8 HN.out HN.out (by have := HN.out; omega) (by have := HN.out; omega) HP8.out (HP.out.later hb8))).mono ?_
          rintro e w9 ⟨rfl, hb9⟩
          have hb9 := hb8.trans (hb9.mono hb8.size)
          go_wp2_with fail
          go_ret
          exact ⟨rfl, hb9⟩

end Go.Proofs.Ytpjibfopfdbnjaa
