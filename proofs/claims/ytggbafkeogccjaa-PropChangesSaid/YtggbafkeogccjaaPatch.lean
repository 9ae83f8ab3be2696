/- Patch answers what is wrong first, or the list without those of old and with those of new. -/
import Derived.Test.YtggbafkeogccjaaTells
namespace Go.Proofs.Ytggbafkeogccjaa
open Go.RowKit Go.WideMaps Go.Maps

/-- A key of new that the rest of the list has too. -/
def clash (l new : List Pr) : Bool := new.any fun p => getB l p.1
/-- One of old that is not among l. -/
def strange (l old : List Pr) : Bool := old.any fun p => !hasB l p
/-- What Patch answers of lists that may be. -/
def patchE (l old new : List Pr) : Int := if strange l old = true then 9 else if clash (minus l old) new = true then 9 else if 16 < (minus l old).length + new.length then 2 else 0
def patchL (l old new : List Pr) : List Pr := srt (minus l old ++ new)

theorem ret_two {a b : Value} {x y : Int} (h : a = b) (hx : x = y) : Ending.returned (.tuple #[a, .int .i64 x]) = .returned (.tuple #[b, .int .i64 y]) := by rw [h, hx]
theorem strange_at {l old : List Pr} {n : Nat} (hn : n < old.length) (h : hasB l ((prAt old n).1, (prAt old n).2) = false) : strange l old = true := by
  unfold strange
  rw [List.any_eq_true]
  refine ⟨_, List.getElem_mem hn, ?_⟩
  rw [prAt_eq old n hn] at h
  rw [show old[n] = (old[n].1, old[n].2) from rfl, h]; rfl
theorem strange_not {l old : List Pr} (h : ∀ j, j < old.length → hasB l ((prAt old j).1, (prAt old j).2) = true) : strange l old = false := by
  unfold strange
  rw [List.any_eq_false]
  intro p hp
  obtain ⟨j, hj, rfl⟩ := List.mem_iff_getElem.1 hp
  have := h j hj
  rw [prAt_eq old j hj] at this
  rw [show old[j] = (old[j].1, old[j].2) from rfl, this]; simp
theorem clash_at {l new : List Pr} {n : Nat} (hn : n < new.length) (h : getB l (prAt new n).1 = true) : clash l new = true := by
  unfold clash
  rw [List.any_eq_true]
  refine ⟨_, List.getElem_mem hn, ?_⟩
  rw [prAt_eq new n hn] at h
  exact h
theorem clash_not {l new : List Pr} (h : ∀ j, j < new.length → getB l (prAt new j).1 = false) : clash l new = false := by
  unfold clash
  rw [List.any_eq_false]
  intro p hp
  obtain ⟨j, hj, rfl⟩ := List.mem_iff_getElem.1 hp
  have := h j hj
  rw [prAt_eq new j hj] at this
  rw [this]; simp
/-- One of old is among what is left just if it was among l: no key of old stands twice. -/
theorem left_has {l old : List Pr} (hO : Apart old) {n : Nat} (hn : n < old.length) : hasB (minus l (old.take n)) ((prAt old n).1, (prAt old n).2) = hasB l ((prAt old n).1, (prAt old n).2) := by
  rw [Bool.eq_iff_iff, hasB_iff, hasB_iff, minus_mem]
  constructor
  · exact fun h => h.1
  · intro h
    refine ⟨h, fun hm => ?_⟩
    have h1 := getF_none.1 (fresh_at old hO n hn) _ hm
    exact h1 rfl
/-- One of new is fresh among what is there and those of new laid so far, just if its key is none of what is there. -/
theorem getB_append (l m : List Pr) (k : ByteArray) : getB (l ++ m) k = (getB l k || getB m k) := by
  unfold getB getF
  rw [List.find?_append]
  cases List.find? (fun p => p.1.toList == k.toList) l <;> simp
theorem fresh_new {l new : List Pr} (hN : Apart new) {n : Nat} (hn : n < new.length) : getB (l ++ new.take n) (prAt new n).1 = getB l (prAt new n).1 := by
  rw [getB_append]
  have : getB (new.take n) (prAt new n).1 = false := by unfold getB; rw [fresh_at new hN n hn]; rfl
  rw [this, Bool.or_false]
theorem none_of_getB {l : List Pr} {k : ByteArray} (h : getB l k = false) : getF l k = none := by
  unfold getB at h
  cases hf : getF l k with
  | none => rfl
  | some p => rw [hf] at h; cases h
theorem apart_new {l new : List Pr} (hl : Apart l) (hN : Apart new) (h : clash l new = false) : Apart (l ++ new) := by
  unfold Apart
  rw [List.pairwise_append]
  refine ⟨hl, hN, fun a ha b hb e => ?_⟩
  unfold clash at h
  rw [List.any_eq_false] at h
  have h1 := h b hb
  have := none_of_getB (by simpa using h1)
  exact getF_none.1 this a ha e

def PatchBad (w : World) (E : Int) (e : Ending) (w' : World) : Prop := e = .returned (.tuple #[.slice none 0 0, .int .i64 E]) ∧ Below w.heap.size w w'
def PatchOk (w : World) (l : List Pr) (e : Ending) (w' : World) : Prop := ∃ v, e = .returned (.tuple #[v, .int .i64 0]) ∧ OwnP w' w.heap.size v l ∧ Below w.heap.size w w'
/-- What Patch answers of three lists, whatever they are. -/
def patchEnd (w : World) (l old new : List Pr) (e : Ending) (w' : World) : Prop :=
  if chk3 l old new = 0 then (if patchE l old new = 0 then PatchOk w (patchL l old new) e w' else PatchBad w (patchE l old new) e w') else PatchBad w (chk3 l old new) e w'

theorem checkAll3 (A B C : Option Addr) (l m n : List Pr) (c d f : Nat) (w : World) (hF : Fit l) (hG : Fit m) (hH : Fit n) (hp : PL w w.heap.size A l) (hq : PL w w.heap.size B m) (hr : PL w w.heap.size C n) (r : Int) (hE : chk3 l m n = r) :
    Calls Try.prog 26 #[.slice (some ⟨w.heap.size, 0, none⟩) 3 3] (w.alloc (.cells #[.slice A l.length c, .slice B m.length d, .slice C n.length f] 22)) fun e w' => e = .returned (.int .i64 r) ∧ Below w.heap.size w w' := by
  subst hE
  rw [← chkAll3]
  exact (checkAll_any w.heap.size 0 3 3 (three A B C) (three l m n) (three c d f) _ (by omega) (fun k hk => by
    match k, hk with
    | 0, _ => exact hF
    | 1, _ => exact hG
    | 2, _ => exact hH) (LL3 c d f hp hq hr)).mono fun e w' ⟨he, hb⟩ => ⟨he, ((Below.refl _ _).alloc (Nat.le_refl _) _).trans (hb.mono (by simp))⟩

set_option maxHeartbeats 2000000 in
theorem patch_bad (A B C : Option Addr) (l m n : List Pr) (c d f : Nat) (w : World) (hF : Fit l) (hG : Fit m) (hH : Fit n) (hp : PL w w.heap.size A l) (hq : PL w w.heap.size B m) (hr : PL w w.heap.size C n) (E : Int) (hE : chk3 l m n = E) (h0 : (E != 0) = true) :
    Calls Try.prog 17 #[.slice A l.length c, .slice B m.length d, .slice C n.length f] w (PatchBad w E) := by
  have hC := hd (checkAll3 A B C l m n c d f w hF hG hH hp hq hr E hE)
  clear hE hp hq hr hF hG hH
  go_enter Try.func17, Try.ntmps17
  go_wp2_with (go_at_call 26; refine hC.out.mono ?_; rintro e w1 ⟨rfl, hb1⟩)
  go_ret2
  exact ⟨rfl, hb1⟩

def PatchRes (w : World) (l old new : List Pr) (e : Ending) (w' : World) : Prop := if patchE l old new = 0 then PatchOk w (patchL l old new) e w' else PatchBad w (patchE l old new) e w'
theorem res_bad {w : World} {l old new : List Pr} {E : Int} {e : Ending} {w' : World} (h : patchE l old new = E) (h0 : E ≠ 0) (hr : PatchBad w E e w') : PatchRes w l old new e w' := by
  unfold PatchRes
  rw [h, if_neg h0]; exact hr
theorem res_ok {w : World} {l old new : List Pr} {e : Ending} {w' : World} (h : patchE l old new = 0) (hr : PatchOk w (patchL l old new) e w') : PatchRes w l old new e w' := by
  unfold PatchRes
  rw [if_pos h]; exact hr

set_option maxHeartbeats 4000000 in
theorem patch_ok (A B C : Option Addr) (l old new : List Pr) (c d f : Nat) (w : World) (hl : chk l = 0) (ho : chk old = 0) (hn : chk new = 0) (hp : PL w w.heap.size A l) (hq : PL w w.heap.size B old) (hr : PL w w.heap.size C new) :
    Calls Try.prog 17 #[.slice A l.length c, .slice B old.length d, .slice C new.length f] w (PatchRes w l old new) := by
  have HF := hd (fit_of_chk hl)
  have HG := hd (fit_of_chk ho)
  have HH := hd (fit_of_chk hn)
  have HAl := hd (apart_of_chk hl)
  have HAo := hd (apart_of_chk ho)
  have HAn := hd (apart_of_chk hn)
  have l16 := ((chk_zero l).1 hl).1
  have o16 := ((chk_zero old).1 ho).1
  have n16 := ((chk_zero new).1 hn).1
  have hC := hd (checkAll3 A B C l old new c d f w HF.out HG.out HH.out hp hq hr 0 (by unfold chk3 chk2; rw [if_pos hl, if_pos ho]; exact hn))
  have HP := hd hp
  have HQ := hd hq
  have HR := hd hr
  clear hl ho hn hp hq hr
  go_enter Try.func17, Try.ntmps17
  go_wp2_with (go_at_call 26; refine hC.out.mono ?_; rintro e w1 ⟨rfl, hb1⟩)
  clear hC
  refine (gather_any A l c w1 HF.out HAl.out (HP.out.later hb1)).mono ?_
  rintro e w2 ⟨rfl, hM2, hb2⟩
  have hw2 : Below w.heap.size w w2 := hb1.trans (hb2.mono hb1.size)
  have hge : w.heap.size ≤ w1.heap.size := hb1.size
  obtain ⟨b0, hb0⟩ : ∃ b0, b0 = w1.heap.size := ⟨_, rfl⟩
  rw [← hb0] at hM2 hge ⊢
  clear hb0 hb2
  go_wp2_with fail
  go_loopw [28] (fun i wr => ∃ n : Nat, n ≤ old.length ∧ i = .int .i64 n ∧ OwnM wr b0 (minus l (old.take n)) ∧ Below w.heap.size w wr ∧ Hid (∀ j, j < n → hasB l ((prAt old j).1, (prAt old j).2) = true)) (fun i _ => old.length - (intOf i).toNat)
  case atStart => exact ⟨0, Nat.zero_le _, rfl, by rw [List.take_zero, minus_nil]; exact hM2, hw2, fun j hj => absurd hj (Nat.not_lt_zero _)⟩
  case round =>
    clear hM2 hw2 hb1
    obtain ⟨n, hn, rfl, hM, hb, HX⟩ := hrel
    by_cases hlt : n < old.length
    · obtain ⟨g, o, rfl, hlg, c1, c2⟩ := (HQ.out.below hb).at_ hlt
      obtain ⟨s1, s2⟩ := HG.out.at_ hlt
      have s1m : Hid ((prAt old n).1.size ≤ maxLen) := hd (by unfold maxLen; omega)
      have HT := hd (take_more old n hlt)
      have HMA := hd (minus_apart HAl.out (old.take n))
      have HLH := hd (left_has (l := l) HAo.out hlt)
      obtain ⟨l', hl'⟩ : ∃ l', l' = minus l (old.take n) := ⟨_, rfl⟩
      rw [← hl'] at hM HMA HLH
      have HL := hd hl'
      clear hl'
      cases hh : hasB l' ((prAt old n).1, (prAt old n).2)
      · have HE : Hid (patchE l old new = 9) := hd (by unfold patchE; rw [if_pos (strange_at hlt (by rw [← HLH.out]; exact hh))])
        have hC := hd (has_is b0 l' (prAt old n).1 (prAt old n).2 _ (wr.alloc (.cells #[.string (prAt old n).1, .string (prAt old n).2] 36)) hh (hM.alloc _) HMA.out s1)
        clear hh
        go_wp2_with (go_at_call 28; refine hC.out.mono ?_; rintro e w3 ⟨rfl, hb3⟩)
        go_ret2
        exact res_bad HE.out (by decide) ⟨rfl, (hb.alloc hb.size _).trans (hb3.mono (by have := hb.size; simp; omega))⟩
      · have HY := one_more (p := fun j => hasB l ((prAt old j).1, (prAt old j).2) = true) HX (by rw [← HLH.out]; exact hh)
        have HN := hd (minus_yes HAl.out (old.take n) ((prAt old n).1, (prAt old n).2) (by rw [← HL.out]; exact hh))
        have hC := hd (has_is b0 l' (prAt old n).1 (prAt old n).2 _ (wr.alloc (.cells #[.string (prAt old n).1, .string (prAt old n).2] 36)) hh (hM.alloc _) HMA.out s1)
        have hM0 := hM.alloc (.cells #[.string (prAt old n).1, .string (prAt old n).2] 36)
        clear hh HX
        go_wp2_with (first
          | (go_at_call 28; refine hC.out.mono ?_; rintro e w3 ⟨rfl, hb3⟩; obtain ⟨k1, k2⟩ := two_kept hb3; have hM1 := hM0.below hb3)
          | (at_delete; refine wpList_delete_M _ rfl _ _ rfl b0 l' rfl hM1 (prAt old n).1 rfl s1m.out ?_; intro w4 hM2 hg2))
        have hb4 : Below w.heap.size w w4 := ((hb.alloc hb.size _).trans (hb3.mono (by have := hb.size; simp; omega))).grown hg2 (by have := hb.size; have := hb3.size; simp at this; omega) (fun j hj => by cases hj; exact hge)
        go_roundw
        case rel => exact ⟨n + 1, by omega, by go_num, by rw [HT.out, HN.out, ← HL.out]; exact hM2, hb4, HY⟩
        case measure => simp [intOf]; omega
    · have HS := hd (strange_not (l := l) (old := old) (fun j hj => HX.out j (by omega)))
      have hM1 : OwnM wr b0 (minus l old) := by rw [List.take_of_length_le (by omega)] at hM; exact hM
      have HMA := hd (minus_apart HAl.out old)
      have hml := minus_len l old
      obtain ⟨l', hl'⟩ : ∃ l', l' = minus l old := ⟨_, rfl⟩
      rw [← hl'] at hM1 HMA hml
      have HL := hd hl'
      clear hl' hM HX
      obtain ⟨wo, hwo⟩ : ∃ wo : World, wo = wr := ⟨_, rfl⟩
      subst hwo
      go_wp2
      go_loopw [42] (fun i wr => ∃ n : Nat, n ≤ new.length ∧ i = .int .i64 n ∧ OwnM wr b0 (l' ++ new.take n) ∧ Below w.heap.size w wr ∧ Hid (∀ j, j < n → getB l' (prAt new j).1 = false)) (fun i _ => new.length - (intOf i).toNat)
      case atStart => exact ⟨0, Nat.zero_le _, rfl, by rw [List.take_zero, List.append_nil]; exact hM1, hb, fun j hj => absurd hj (Nat.not_lt_zero _)⟩
      case round =>
        clear hM1 hb
        obtain ⟨k, hk, rfl, hM, hb, HX⟩ := hrel
        by_cases hkt : k < new.length
        · obtain ⟨g, o, rfl, hlg, c1, c2⟩ := (HR.out.below hb).at_ hkt
          obtain ⟨s1, s2⟩ := HH.out.at_ hkt
          have s1m : Hid ((prAt new k).1.size ≤ maxLen) := hd (by unfold maxLen; omega)
          have s2m : Hid ((prAt new k).2.size ≤ maxLen) := hd (by unfold maxLen; omega)
          have lm : Hid ((l' ++ new.take k).length < maxLen) := hd (by rw [List.length_append, List.length_take]; unfold maxLen; omega)
          have HFR := hd (fresh_new (l := l') HAn.out hkt)
          have HT := hd (take_more new k hkt)
          cases hh : getB l' (prAt new k).1
          · have hg0 : getB (l' ++ new.take k) (prAt new k).1 = false := by rw [HFR.out]; exact hh
            have HNG := hd (none_of_getB hg0)
            have HY := one_more (p := fun j => getB l' (prAt new j).1 = false) HX hh
            clear hh HX
            go_wp2_with (first
              | (at_lookup; refine wpList_lookup_M _ rfl _ _ rfl b0 (l' ++ new.take k) rfl (hM.alloc _) (prAt new k).1 rfl s1m.out ?_)
              | (at_mapUpdate; refine wpList_put_M _ rfl _ _ _ rfl b0 (l' ++ new.take k) rfl (hM.alloc _) lm.out (prAt new k).1 (prAt new k).2 rfl rfl s1m.out s2m.out HNG.out ?_; intro w4 hM2 hg2))
            have hM3 : OwnM w4 b0 (l' ++ new.take (k + 1)) := by rw [HT.out, ← List.append_assoc]; exact hM2
            have hb4 : Below w.heap.size w w4 := (hb.alloc hb.size _).grown hg2 (by have := hb.size; simp; omega) (fun j hj => by cases hj; exact hge)
            go_roundw
            case rel => exact ⟨k + 1, by omega, by go_num, hM3, hb4, HY⟩
            case measure => simp [intOf]; omega
          · have hg0 : getB (l' ++ new.take k) (prAt new k).1 = true := by rw [HFR.out]; exact hh
            have HE : Hid (patchE l old new = 9) := hd (by
              unfold patchE
              rw [HS.out, ← HL.out, clash_at hkt hh]; rfl)
            clear hh HX
            go_wp2_with (first
              | (at_lookup; refine wpList_lookup_M _ rfl _ _ rfl b0 (l' ++ new.take k) rfl (hM.alloc _) (prAt new k).1 rfl s1m.out ?_))
            go_ret2
            exact res_bad HE.out (by decide) ⟨rfl, hb.alloc hb.size _⟩
        · have HCl := hd (clash_not (l := l') (new := new) (fun j hj => HX.out j (by omega)))
          have hM1 : OwnM wr b0 (l' ++ new) := by rw [List.take_of_length_le (by omega)] at hM; exact hM
          have HAN := hd (apart_new HMA.out HAn.out HCl.out)
          have hlen : Hid ((l' ++ new).length = l'.length + new.length) := hd List.length_append
          clear hM HX
          obtain ⟨r, hr⟩ : ∃ r, r = l' ++ new := ⟨_, rfl⟩
          rw [← hr] at hM1 HAN hlen
          have HRr := hd hr
          clear hr
          by_cases h16 : (16 : Int) < (r.length : Int)
          · have HE : Hid (patchE l old new = 2) := hd (by
              unfold patchE
              rw [HS.out, ← HL.out, HCl.out, if_neg (by simp), if_neg (by simp), if_pos (by have := hlen.out; omega)])
            go_wp2_with (first | (at_len; refine wpList_len_M _ rfl _ rfl b0 r rfl hM1 ?_))
            go_ret2
            exact res_bad HE.out (by decide) ⟨rfl, hb⟩
          · have HE : Hid (patchE l old new = 0) := hd (by
              unfold patchE
              rw [HS.out, ← HL.out, HCl.out, if_neg (by simp), if_neg (by simp), if_neg (by have := hlen.out; omega)])
            have HPL : Hid (patchL l old new = srt r) := hd (by unfold patchL; rw [HRr.out, HL.out])
            have hC := hd (sorted_any b0 r wr hM1 HAN.out (by omega))
            go_wp2_with (first
              | (at_len; refine wpList_len_M _ rfl _ rfl b0 r rfl hM1 ?_)
              | (go_at_call 29; refine hC.out.mono ?_; rintro e w5 ⟨v, rfl, hO, hb5⟩))
            go_ret2
            exact res_ok HE.out ⟨v, rfl, by rw [HPL.out]; exact hO.base hb.size, hb.trans (hb5.mono hb.size)⟩

end Go.Proofs.Ytggbafkeogccjaa
