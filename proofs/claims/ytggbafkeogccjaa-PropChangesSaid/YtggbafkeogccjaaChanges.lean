/- The walk of PropChanges: whatever the input, it answers true, and old memory stays as it was. -/
import Derived.Test.YtggbafkeogccjaaRPatch2
import Derived.Test.YtggbafkeogccjaaNone
namespace Go.Proofs.Ytggbafkeogccjaa
open Go.RowKit

theorem rpatch_is (A B C : Option Addr) (l old new : List Pr) (c d f : Nat) (w : World) (hF : Fit l) (hG : Fit old) (hH : Fit new) (hp : PL w w.heap.size A l) (hq : PL w w.heap.size B old) (hr : PL w w.heap.size C new) (E : Int) (hE : PE l old new = E) (L : List Pr) (hL : PLs l old new = L) :
    Calls Try.prog 18 #[.slice A l.length c, .slice B old.length d, .slice C new.length f] w (PatchIs w E L) := by
  subst hE hL
  by_cases h3 : chk3 l old new = 0
  · have h3' := h3
    unfold chk3 chk2 at h3'
    have e1 : chk l = 0 := by
      by_cases e : chk l = 0
      · exact e
      · rw [if_neg e] at h3'; exact absurd h3' e
    rw [if_pos e1] at h3'
    have e2 : chk old = 0 := by
      by_cases e : chk old = 0
      · exact e
      · rw [if_neg e] at h3'; exact absurd h3' e
    rw [if_pos e2] at h3'
    refine (rpatch_ok A B C l old new c d f w e1 e2 h3' hp hq hr).mono fun e w' h => ?_
    have hPE : PE l old new = patchE l old new := by unfold PE; rw [if_pos h3]
    unfold PatchRes at h
    unfold PatchIs PLs
    rw [hPE]
    by_cases h0 : patchE l old new = 0
    · rw [if_pos h0] at h ⊢
      rw [h0]; exact h
    · rw [if_neg h0] at h ⊢
      exact ⟨_, h.1, OwnP.nil _ _, h.2⟩
  · refine (rpatch_bad A B C l old new c d f w hF hG hH hp hq hr _ rfl (by simpa using h3)).mono fun e w' h => ?_
    have hPE : PE l old new = chk3 l old new := by unfold PE; rw [if_neg h3]
    unfold PatchIs PLs
    rw [hPE, if_neg h3]
    exact ⟨_, h.1, OwnP.nil _ _, h.2⟩

theorem run_append_of_nil {P : Program} (w : World) (base : Nat) (t ty e : TypeId) (i : TypeInfo) (size : Nat) (ht : P.underlying t = some (.slice e)) (hi : P.info? e = some i)
    (v : Value) (n : Nat) (xs : List Value) (hown : w.ownsRow base e size v n xs) (c : Nat) : (Builtin.append_ #[t, t] ty #[v, .slice none 0 c]).run P w = .ok v w := by
  rcases hown.2 with ⟨rfl, rfl⟩ | ⟨g, cap, cur, rfl, _, _, hnc, _⟩
  · simp [Builtin.append_, run_underlying ht, sizeOf, typeInfo, hi, Builtin.lenOf, Builtin.firstCells]
  · simp [Builtin.append_, run_underlying ht, sizeOf, typeInfo, hi, Builtin.lenOf, Builtin.firstCells, hnc, storeCells]

theorem flat_cells {w : World} {B : Nat} {A : Option Addr} {l : List Pr} (h : PL w B A l) {ad : Addr} (hA : A = some ad) : ∀ j u, (flat l)[j]? = some u → w.cell? (ad.add j) = some u := by
  intro j u hu
  have hj : j < l.length * 2 := by
    rw [← flat_length]
    exact (List.getElem?_eq_some_iff.1 hu).1
  have hk : j / 2 < l.length := by omega
  obtain ⟨b, o, e, _, c1, c2⟩ := h.at_ hk
  rw [hA] at e
  cases e
  have hg := flat_get l (j / 2) hk
  rw [Addr.add_lit]
  rcases Nat.mod_two_eq_zero_or_one j with h0 | h0
  · have e : j / 2 * 2 = j := by omega
    rw [e] at hg c1
    rw [hg.1] at hu
    rw [c1, ← hu]
  · have e : j / 2 * 2 + 1 = j := by omega
    rw [e] at hg
    rw [Nat.add_assoc, e] at c2
    rw [hg.2] at hu
    rw [c2, ← hu]

/-- A list copied by an append to nil. -/
theorem wpList_append_copy (W : World) {ops : Array Oper} {rest : List Oper} {o : Oper} {a : Act} {Q : Exit → Act → World → Prop} (hgd : o.guard = none) (s x : Operand)
    (ho : o.op = .call { callee := .builtin .append, args := #[s, x], argTypes := #[22, 22] })
    (hs : a.eval s = .slice none 0 0) (A : Option Addr) (l : List Pr) (c : Nat) (hx : a.eval x = .slice A l.length c) (hp : PL W W.heap.size A l) (hlen : l.length ≤ 1000)
    (hK : ∀ v' w', OwnP w' W.heap.size v' l → Below W.heap.size W w' → wpList Try.prog ops Q rest (a.put o.dst v') w') :
    wpList Try.prog ops Q (o :: rest) a W := by
  obtain ⟨i0, hi, hz0, hz1, hz2⟩ := info_parts info36
  rcases A with _ | ad
  · have hl : l = [] := by
      cases l with
      | nil => rfl
      | cons p r =>
        obtain ⟨b, o, e, _⟩ := hp (by simp)
        cases e
    subst hl
    refine wpList_plain hgd fun K hK' => ?_
    have hrun := run_append_of_nil (P := Try.prog) W W.heap.size 22 o.type 36 i0 2 Try.underlying22 hi (.slice none 0 0) 0 [] (World.ownsRow_nil W _ 36 2) c
    unfold Oper.wp
    simp [execOp, ho, resolve, invoke, builtin, hs, hx, hrun, Result.andThen]
    exact hK' _ _ (hK _ _ (OwnP.nil _ _) (Below.refl _ _))
  · refine wpList_append_own _ hgd s x 22 ho W.heap.size 36 i0 _ 2 32 Try.underlying22 hi hz0 hz1 hz2 rfl (by decide) (.slice none 0 0) 0 [] hs (World.ownsRow_nil W _ 36 2) ad l.length c (flat l) hx (flat_length l) (flat_cells hp rfl) ?_
      (by unfold maxLen; omega) (by omega) (Nat.le_refl _) (fun v' w' h1 h2 _ => hK v' w' (OwnP.of_own (n := 0 + l.length) h1 (by omega)) ((Below.refl _ _).grown h2 (Nat.le_refl _) (fun j hj => by simp [Value.ownBlock] at hj)))
    intro u hu
    unfold flat at hu
    obtain ⟨p, _, hp'⟩ := List.mem_flatMap.1 hu
    simp [encP] at hp'
    rcases hp' with rfl | rfl <;> rfl

/-- A row of the call's own that can be written. -/
def Row (w : World) (g n : Nat) : Prop := ∃ cur : Array Value, w.heap[g]? = some (.cells cur 36 (0, 0)) ∧ n ≤ cur.size
theorem Row.cell {w : World} {g n k : Nat} (h : Row w g n) (hk : k < n) : (∃ x, w.cell? ⟨g, k, none⟩ = some x) ∧ w.frozen? ⟨g, k, none⟩ = false := by
  obtain ⟨cur, hb, hn⟩ := h
  refine ⟨⟨cur[k]'(by omega), ?_⟩, by simp [World.frozen?, hb]⟩
  simp [World.cell?, hb, show k < cur.size by omega]
theorem Row.set {w : World} {g n k : Nat} (h : Row w g n) (v : Value) : Row (w.setCell ⟨g, k, none⟩ v) g n := by
  obtain ⟨cur, hb, hn⟩ := h
  refine ⟨cur.setIfInBounds k v, ?_, by simpa using hn⟩
  simp [World.setCell, Array.getElem?_modify, hb]
theorem OwnP.row {w : World} {b : Nat} {v : Value} {l : List Pr} (h : OwnP w b v l) (hl : l ≠ []) : ∃ g cap, v = .slice (some ⟨g, 0, none⟩) l.length cap ∧ b ≤ g ∧ Row w g (l.length * 2) := by
  obtain ⟨A, cap, rfl, h⟩ := h
  have h0 : 0 < l.length := List.length_pos_iff.2 hl
  rcases h.2 with ⟨_, h1⟩ | ⟨g, cap', cur, hv, hg, hb, hnc, hm, hsz, ht⟩
  · omega
  · cases hv
    exact ⟨g, cap, rfl, hg, cur, hb, by omega⟩

set_option maxHeartbeats 4000000 in
theorem changes_short (A B C : Option Addr) (l old new : List Pr) (c d f : Nat) (w : World) (hW : Wide l) (hV : Wide old) (hU : Wide new) (hp : PL w w.heap.size A l) (hq : PL w w.heap.size B old) (hr : PL w w.heap.size C new) (hs : shortB 3 (three l old new) = false) :
    Calls Try.prog 4 #[.slice A l.length c, .slice B old.length d, .slice C new.length f] w (AllTrue w) := by
  have HP := hd hp
  have HQ := hd hq
  have HR := hd hr
  have HS := hd hs
  have HW := hd hW
  have HV := hd hV
  have HU := hd hU
  clear hp hq hr hs hW hV hU
  go_enter Try.func4, Try.ntmps4
  go_wp2_with fail
  refine (live_any _).mono ?_
  rintro e w1 ⟨rfl, hb1⟩
  go_wp2_with fail
  refine (short3 A B C l old new c d f w1 HW.out HV.out HU.out (HP.out.later hb1) (HQ.out.later hb1) (HR.out.later hb1) _ HS.out).mono ?_
  rintro e w2 ⟨rfl, hb2⟩
  have hw2 := hb1.trans (hb2.mono hb1.size)
  go_wp2_with fail
  go_ret
  exact ⟨rfl, hw2⟩

theorem rsame_self (A B : Option Addr) (l : List Pr) (c d : Nat) (w : World) (hl : l.length ≤ 200) (hp : PL w w.heap.size A l) (hq : PL w w.heap.size B l) :
    Calls Try.prog 16 #[.slice A l.length c, .slice B l.length d] w fun e w' => e = .returned (.bool true) ∧ Below w.heap.size w w' :=
  rsame_is A B l l c d _ _ true (decide_eq_true rfl) w rfl rfl (by omega) (by omega) hp hq

theorem pls_fit {l old new : List Pr} : Fit (PLs l old new) := by
  by_cases h : PE l old new = 0
  · rw [(can_iff.1 h).list]; exact fit_of_chk (can_iff.1 h).may
  · rw [pl_bad rfl h]; exact fit_nil
theorem dx_fit {l m : List Pr} : Fit (DX l m) := by
  unfold DX
  split
  · rename_i h
    exact fit_of_chk (chk_minus (both_zero h).1 m)
  · exact fit_nil
theorem dy_fit {l m : List Pr} : Fit (DY l m) := by
  unfold DY
  split
  · rename_i h
    exact fit_of_chk (chk_minus (both_zero h).2 l)
  · exact fit_nil

set_option maxRecDepth 100000 in
set_option maxHeartbeats 8000000 in
theorem changes_good (A B C : Option Addr) (l old new : List Pr) (c d f : Nat) (w : World) (hW : Wide l) (hV : Wide old) (hU : Wide new) (hp : PL w w.heap.size A l) (hq : PL w w.heap.size B old) (hr : PL w w.heap.size C new) (hs : shortB 3 (three l old new) = true)
    (E : Int) (hE : PE l old new = E) (L : List Pr) (hL : PLs l old new = L) (D : Int) (hD : chk2 l new = D) (X Y : List Pr) (hX : DX l new = X) (hY : DY l new = Y) :
    Calls Try.prog 4 #[.slice A l.length c, .slice B old.length d, .slice C new.length f] w (AllTrue w) := by
  have HP := hd hp
  have HQ := hd hq
  have HR := hd hr
  have HS := hd hs
  have HW := hd hW
  have HV := hd hV
  have HU := hd hU
  have HF := hd (fits3 hs).1
  have HG := hd (fits3 hs).2.1
  have HH := hd (fits3 hs).2.2
  have l60 := HF.out.1
  have HL60 : Hid (L.length ≤ 60) := hd (by rw [← hL]; exact pls_fit.1)
  have HX60 : Hid (X.length ≤ 60) := hd (by rw [← hX]; exact dx_fit.1)
  have HY60 : Hid (Y.length ≤ 60) := hd (by rw [← hY]; exact dy_fit.1)
  have HE := hd hE
  have HL := hd hL
  have HD := hd hD
  have HX := hd hX
  have HY := hd hY
  clear hp hq hr hs hW hV hU hE hL hD hX hY
  go_enter Try.func4, Try.ntmps4
  go_wp2_with fail
  refine (live_any _).mono ?_
  rintro e w1 ⟨rfl, hb1⟩
  go_wp2_with fail
  refine (short3 A B C l old new c d f w1 HW.out HV.out HU.out (HP.out.later hb1) (HQ.out.later hb1) (HR.out.later hb1) _ HS.out).mono ?_
  rintro e w2 ⟨rfl, hb2⟩
  have hw2 := hb1.trans (hb2.mono hb1.size)
  have hp2 := HP.out.later hw2
  have HP2 := hd hp2
  clear hp2
  go_wp2_with (first | (at_builtin; refine wpList_append_copy _ rfl _ _ rfl rfl A l c rfl HP2.out (by omega) ?_; intro v7 w3 hO7 hb3))
  have hw3 := hw2.trans (hb3.mono hw2.size)
  obtain ⟨A7, c7, rfl, p7⟩ := hO7.PL
  have P7 := hd p7
  clear hO7 p7
  refine (patch_is A B C l old new c d f w3 HF.out HG.out HH.out (HP.out.later hw3) (HQ.out.later hw3) (HR.out.later hw3) E HE.out L HL.out).mono ?_
  rintro e w4 ⟨v8, rfl, hO8, hb4⟩
  have hw4 := hw3.trans (hb4.mono hw3.size)
  go_wp2_with fail
  refine (rpatch_is A B C l old new c d f w4 HF.out HG.out HH.out (HP.out.later hw4) (HQ.out.later hw4) (HR.out.later hw4) E HE.out L HL.out).mono ?_
  rintro e w5 ⟨v10, rfl, hO10, hb5⟩
  have hw5 := hw4.trans (hb5.mono hw4.size)
  go_wp2_with fail
  refine (diff_is A C l new c f w5 HF.out HH.out (HP.out.later hw5) (HR.out.later hw5) D HD.out X Y HX.out HY.out).mono ?_
  rintro e w6 ⟨v12, v13, rfl, hO12, hO13, hb6⟩
  have hw6 := hw5.trans (hb6.mono hw5.size)
  go_wp2_with fail
  refine (rdiff_is A C l new c f w6 HF.out HH.out (HP.out.later hw6) (HR.out.later hw6) D HD.out X Y HX.out HY.out).mono ?_
  rintro e w7 ⟨v15, v16, rfl, hO15, hO16, hb7⟩
  have hw7 := hw6.trans (hb7.mono hw6.size)
  have hb47 := hb5.trans ((hb6.trans (hb7.mono hb6.size)).mono hb5.size)
  have o8 := hO8.below hb47
  obtain ⟨A10, c10, rfl, p10⟩ := (hO10.below (hb6.trans (hb7.mono hb6.size))).PL
  obtain ⟨A12, c12, rfl, p12⟩ := (hO12.below hb7).PL
  obtain ⟨A13, c13, rfl, p13⟩ := (hO13.below hb7).PL
  obtain ⟨A15, c15, rfl, p15⟩ := hO15.PL
  obtain ⟨A16, c16, rfl, p16⟩ := hO16.PL
  have h37 : Below w3.heap.size w3 w7 := hb4.trans (hb47.mono hb4.size)
  have key : ∃ A8 c8, v8 = .slice A8 L.length c8 ∧ PL w7 w7.heap.size A8 L ∧ Hid (L ≠ [] → ∃ g, A8 = some ⟨g, 0, none⟩ ∧ w3.heap.size ≤ g ∧ Row w7 g (L.length * 2)) := by
    by_cases hn : L = []
    · obtain ⟨A8, c8, e8, p8⟩ := o8.PL
      exact ⟨A8, c8, e8, p8, fun h => absurd hn h⟩
    · obtain ⟨g, cap, e8, hg, hR⟩ := o8.row hn
      obtain ⟨A8, c8, e8', p8⟩ := o8.PL
      rw [e8'] at e8
      cases e8
      exact ⟨_, _, e8', p8, fun _ => ⟨g, rfl, hg, hR⟩⟩
  obtain ⟨A8, c8, rfl, p8, HRow⟩ := key
  have P7b := hd (((P7.out.later hb4).later hb47))
  have P7c := hd (P7.out)
  have P8 := hd p8
  have P10 := hd p10
  have P12 := hd p12
  have P13 := hd p13
  have P15 := hd p15
  have P16 := hd p16
  clear hO8 hO10 hO12 hO13 hO15 hO16 o8 p8 p10 p12 p13 p15 p16 hb4 hb5 hb6 hb7 hw4 hw5 hw6 hb47
  go_wp2_with fail
  refine (rsame_self A8 A10 L c8 c10 w7 (by have := HL60.out; omega) P8.out P10.out).mono ?_
  rintro e w8 ⟨rfl, hb8⟩
  go_wp2_with fail
  refine (rsame_self A12 A15 X c12 c15 w8 (by have := HX60.out; omega) (P12.out.later hb8) (P15.out.later hb8)).mono ?_
  rintro e w9 ⟨rfl, hb9⟩
  have hb9 := hb8.trans (hb9.mono hb8.size)
  go_wp2_with fail
  refine (rsame_self A13 A16 Y c13 c16 w9 (by have := HY60.out; omega) (P13.out.later hb9) (P16.out.later hb9)).mono ?_
  rintro e w10 ⟨rfl, hb10⟩
  have hb10 := hb9.trans (hb10.mono hb9.size)
  have h310 : Below w3.heap.size w3 w10 := h37.trans (hb10.mono h37.size)
  have HRow2 : Hid (L ≠ [] → ∃ g, A8 = some ⟨g, 0, none⟩ ∧ w3.heap.size ≤ g ∧ Row w10 g (L.length * 2)) := hd fun hn => by
    obtain ⟨g, e, hg, cur, hR, hsz⟩ := HRow.out hn
    exact ⟨g, e, hg, cur, (hb10.block g (Array.getElem?_eq_some_iff.1 hR).1).trans hR, hsz⟩
  clear HRow
  go_wp2
  go_loopw [83] (fun i wr => ∃ n : Nat, n ≤ L.length ∧ i = .int .i64 n ∧ Below w3.heap.size w3 wr ∧ Hid (L ≠ [] → ∃ g, A8 = some ⟨g, 0, none⟩ ∧ w3.heap.size ≤ g ∧ Row wr g (L.length * 2))) (fun i _ => L.length - (intOf i).toNat)
  case atStart => exact ⟨0, Nat.zero_le _, rfl, h310, HRow2⟩
  case round =>
    clear HRow2 h310
    obtain ⟨n, hn, rfl, hb, HRw⟩ := hrel
    have hL60 := HL60.out
    by_cases hlt : n < L.length
    · obtain ⟨g, rfl, hg, hR⟩ := HRw.out (by intro h; rw [h] at hlt; simp at hlt)
      obtain ⟨⟨x, hx⟩, hfz⟩ := hR.cell (k := n * 2 + 1) (by omega)
      have HY2 : Hid (L ≠ [] → ∃ g_1, some (⟨g, 0, none⟩ : Addr) = some ⟨g_1, 0, none⟩ ∧ w3.heap.size ≤ g_1 ∧ Row (wr.setCell ⟨g, n * 2 + 1, none⟩ (.string ⟨#[122]⟩)) g_1 (L.length * 2)) := hd fun _ => ⟨g, rfl, hg, hR.set _⟩
      have hb2 := hb.setCell (p := ⟨g, n * 2 + 1, none⟩) hg (.string ⟨#[122]⟩)
      clear HRw
      go_wp2
      go_roundw
      case rel => exact ⟨n + 1, by omega, by go_num, hb2, HY2⟩
      case measure => simp [intOf]; omega
    · have hwr := hw3.trans (hb.mono hw3.size)
      have PA := hd ((HP.out.later hw3).later hb)
      have PB := hd (P7c.out.later hb)
      clear HRw
      go_wp2_with fail
      refine (rsame_self A A7 l c c7 wr (by omega) PA.out PB.out).mono ?_
      rintro e w11 ⟨rfl, hb11⟩
      go_wp2_with fail
      go_ret
      exact ⟨rfl, hwr.trans (hb11.mono hwr.size)⟩

theorem changes_any (A B C : Option Addr) (l old new : List Pr) (c d f : Nat) (w : World) (hW : Wide l) (hV : Wide old) (hU : Wide new) (hp : PL w w.heap.size A l) (hq : PL w w.heap.size B old) (hr : PL w w.heap.size C new) :
    Calls Try.prog 4 #[.slice A l.length c, .slice B old.length d, .slice C new.length f] w (AllTrue w) := by
  cases hs : shortB 3 (three l old new)
  · exact changes_short A B C l old new c d f w hW hV hU hp hq hr hs
  · exact changes_good A B C l old new c d f w hW hV hU hp hq hr hs _ rfl _ rfl _ rfl _ _ rfl rfl

end Go.Proofs.Ytggbafkeogccjaa
