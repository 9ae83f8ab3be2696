/- Free: the program's. HoldFinds answers true. -/
import Derived.Test.YtmglnjmnabjjgaaJLFrW
import Derived.Test.YtmglnjmnabjjgaaJGMemWF
import Derived.Test.YtmglnjmnabjjgaaJLOpen
import Derived.Test.YtmglnjmnabjjgaaJLFree
import Derived.Maps.OwnSet
import Derived.Test.YtmglnjmnabjjgaaJXMove5
import Derived.Test.YtmglnjmnabjjgaaJXCalls
import Derived.Test.YtmglnjmnabjjgaaJKCmp
import Derived.Test.YtmglnjmnabjjgaaJGText
import Derived.Laws.Strings
import Derived.IntWalk
import Derived.Laws.AppendOwnNone
import Derived.Lib.AppendZeros
import Derived.Lib.SliceRun
import Derived.StillTailTactics
import Derived.Deep.Cut
import Derived.Deep.RegionHeld3
import Derived.Deep.RegionLaw
import Derived.BigRegion
import Derived.OrdersHeld
import Derived.Shelf.Abstract
import Derived.ArgAppend
import Derived.Great.BuildSlice
import Derived.Test.YtmglnjmnabjjgaaXMove
import Derived.Deep.MidRow
import Derived.Laws.Tables
import Derived.Deep.Draws
import Derived.Deep.QuietTactic
import Derived.BigQuiet
import Derived.Laws.EntriesVeiled
import Derived.Laws.ResultCell
import Derived.Maps.OwnOps
import Derived.Test.YtmglnjmnabjjgaaJLStepH
namespace Go.Proofs.Ytmglnjmnabjjgaa
open Go.RowKit
set_option maxRecDepth 100000 in
set_option maxHeartbeats 8000000 in
theorem hfree_r {w : World} {A : Option Addr} {cs : List RC} {us : List RefP} {n cap : Nat} {id : Int} (h : LR w A cs us) (hn : us.length = n) (h63 : n ≤ 300) (hcap : n ≤ cap) (tu : ∀ r ∈ us, fewR r = true) : Calls Try.prog 16 #[.slice A n cap, .int .i64 id] w (NewLE w (freeR id us)) := by
  have HL := hd h
  have HN := hd hn
  have HTU := hd tu
  clear h hn tu
  go_enter Try.func16, Try.ntmps16
  go_upto_region 2 with (go_at_call 30; refine (hfnd_any HL.out HN.out (by omega)).mono ?_; rintro e w1 ⟨i, rfl, hi, b9⟩; have HI := hd hi; have HB := hd b9; clear hi b9)
  rcases HI.out with ⟨rfl, hno⟩ | ⟨k, rfl, hk, hf⟩
  · have HE := hd (freeR_no hno)
    clear hno HI
    go_wp2_with fail
    go_ret2
    refine ⟨none, 0, 0, [], by rw [HE.out]; rfl, by rw [HE.out]; rfl, Nat.le_refl _, ?_, HB.out⟩
    rw [HE.out]
    exact LR.nil _ _
  · rw [HN.out] at hk
    have HE := hd (freeR_at hf)
    obtain ⟨D, hD1, hD2⟩ := cutR_run A n cap (k + 1) hk hcap
    have hT := takeR_run A n cap k (by omega)
    have HD1 := hd hD1
    have HD2 := hd hD2
    have HT := hd hT
    have HTR := hd (show ∀ x ∈ us.take k ++ us.drop (k + 1), tinyR x from fun x hx => by
      rcases List.mem_append.1 hx with h1 | h1
      · exact tiny_few (HTU.out _ (List.mem_of_mem_take h1))
      · exact tiny_few (HTU.out _ (List.mem_of_mem_drop h1)))
    clear hf HI hD1 hD2 hT
    go_upto_region 4 with fail
    refine Y_start (S := fun _ => True) (z := fun _ => false) (by kernel_rfl) ?_
    refine Y_take (i := 0) (n := 11) (.slice A n cap) rfl (by kernel_rfl) (by kernel_rfl) (by kernel_rfl) (by kernel_rfl) (fun _ _ _ h => h) (by rfl) (fun W9 hW9 => ?_) trivial ?_
    · go_simp
    simp only [Act.put, List.setIfInBounds_toArray, List.set_cons_succ, List.set_cons_zero, List.getElem_toArray, List.getElem_cons_zero]
    refine Y_take (i := 1) (n := 10) (.int .i64 (k : Int)) rfl (by kernel_rfl) (by kernel_rfl) (by kernel_rfl) (by kernel_rfl) (fun _ _ _ h => h) (by rfl) (fun W9 hW9 => ?_) trivial ?_
    · go_simp
    simp only [Act.put, List.setIfInBounds_toArray, List.set_cons_succ, List.set_cons_zero, List.getElem_toArray, List.getElem_cons_succ, List.getElem_cons_zero]
    refine Y_take (i := 2) (n := 9) (.slice A k cap) rfl (by kernel_rfl) (by kernel_rfl) (by kernel_rfl) (by kernel_rfl) (fun _ _ _ h => h) (by rfl) (fun W9 hW9 => ?_) trivial ?_
    · exact exec_slice_h HT.out rfl rfl rfl W9
    simp only [Act.put, List.setIfInBounds_toArray, List.set_cons_succ, List.set_cons_zero, List.getElem_toArray, List.getElem_cons_succ, List.getElem_cons_zero]
    refine Y_take (i := 3) (n := 8) (.slice A n cap) rfl (by kernel_rfl) (by kernel_rfl) (by kernel_rfl) (by kernel_rfl) (fun _ _ _ h => h) (by rfl) (fun W9 hW9 => ?_) trivial ?_
    · go_simp
    simp only [Act.put, List.setIfInBounds_toArray, List.set_cons_succ, List.set_cons_zero, List.getElem_toArray, List.getElem_cons_succ, List.getElem_cons_zero]
    refine Y_take (i := 4) (n := 7) (.int .i64 (k : Int)) rfl (by kernel_rfl) (by kernel_rfl) (by kernel_rfl) (by kernel_rfl) (fun _ _ _ h => h) (by rfl) (fun W9 hW9 => ?_) trivial ?_
    · go_simp
    simp only [Act.put, List.setIfInBounds_toArray, List.set_cons_succ, List.set_cons_zero, List.getElem_toArray, List.getElem_cons_succ, List.getElem_cons_zero]
    refine Y_take (i := 5) (n := 6) (.int .i64 ((k + 1 : Nat) : Int)) rfl (by kernel_rfl) (by kernel_rfl) (by kernel_rfl) (by kernel_rfl) (fun _ _ _ h => h) (by rfl) (fun W9 hW9 => ?_) trivial ?_
    · go_simp
      exact lwrap _ (by omega) (by omega)
    simp only [Act.put, List.setIfInBounds_toArray, List.set_cons_succ, List.set_cons_zero, List.getElem_toArray, List.getElem_cons_succ, List.getElem_cons_zero]
    refine Y_take (i := 6) (n := 5) (.slice D (n - (k + 1)) (cap - (k + 1))) rfl (by kernel_rfl) (by kernel_rfl) (by kernel_rfl) (by kernel_rfl) (fun _ _ _ h => h) (by rfl) (fun W9 hW9 => ?_) trivial ?_
    · exact exec_slice_l HD2.out rfl rfl rfl W9
    simp only [Act.put, List.setIfInBounds_toArray, List.set_cons_succ, List.set_cons_zero, List.getElem_toArray, List.getElem_cons_succ, List.getElem_cons_zero]
    have HB := hd (HB.out.drew)
    generalize w1.drew = W at HB ⊢
    refine Y_one (i := 7) (n := 4) (by kernel_rfl) rfl (fun K hK => ?_)
    rw [if_pos (by rfl)]
    go_simp
    have hb2 : Below W.heap.size W (W.alloc (.cells #[.slice A k cap, .slice D (n - (k + 1)) (cap - (k + 1))] 27)) := (Below.refl _ _).alloc (Nat.le_refl _) _
    have HL2 := hd ((HL.out.later HB.out).later hb2)
    have HC := hd (hconcat_any (n := k) (m := n - (k + 1)) (c := cap) (d := cap - (k + 1)) (cap := 2) (b := W.heap.size) (o := 0) (cs := cs.take k) (ds := cs.drop (k + 1)) (w := W.alloc (.cells #[.slice A k cap, .slice D (n - (k + 1)) (cap - (k + 1))] 27)) (by rw [List.length_take, HL.out.hl, HN.out]; omega) (by rw [List.length_drop, HL.out.hl, HN.out]) (by omega) (by omega) (by simp) (by rw [World.cell?_alloc_at _ _ _ _ rfl]; rfl) (by rw [World.cell?_alloc_at _ _ _ _ rfl]; rfl)
      (by rw [← cellsR_take]; exact HL2.out.hv.take _) (HD1.out _ _ _ HL2.out.hv (by rw [HL.out.hl, HN.out])))
    have HRK := hd ((HL2.out.rk.take k).app (HL2.out.rk.drop (k + 1)))
    have HB := hd (HB.out.trans (hb2.mono HB.out.size))
    clear hb2 HL2
    refine hK _ _ (fun _ => trivial) ?_
    clear hK K
    refine Y_one (i := 8) (n := 3) (by kernel_rfl) rfl (fun K hK => ?_)
    rw [if_pos (by rfl)]
    go_simp
    go_at_call 23
    refine HC.out.mono ?_
    rintro e w2 hnr
    obtain ⟨A2, c2, rfl, hlr, b9⟩ := hnr.lr HRK.out
    have HLR := hd hlr
    have HB := hd (step_b HB.out b9)
    clear hnr hlr b9 HC HRK
    refine hK _ _ (fun _ => trivial) ?_
    clear hK K
    refine Y_one (i := 9) (n := 2) (by kernel_rfl) rfl (fun K hK => ?_)
    rw [if_pos (by rfl)]
    go_simp
    go_at_call 22
    refine (hfresh_any HLR.out (by rw [List.length_append, List.length_take, List.length_drop, HN.out]; omega) (by omega) HTR.out).mono ?_
    rintro e w3 hnf
    obtain ⟨A3, n3, c3, ds, rfl, hn3, hc3, hlr3, b9⟩ := hnf.lr
    have HB := hd (step_b HB.out b9)
    refine hK _ _ (fun _ => trivial) ?_
    clear hK K hnf b9
    refine Y_one (i := 10) (n := 1) (by kernel_rfl) rfl (fun K hK => ?_)
    rw [if_pos (by rfl)]
    go_simp
    refine hK _ _ (fun _ => trivial) ?_
    clear hK K
    refine Y_one (i := 11) (n := 0) (by kernel_rfl) rfl (fun K hK => ?_)
    rw [if_pos (by rfl)]
    go_simp
    refine hK _ _ (fun _ => trivial) (Y_done (by kernel_rfl) ?_)
    clear hK K
    go_wp2_with fail
    go_ret2
    refine ⟨A3, n3, c3, ds, by rw [HE.out]; rfl, by rw [HE.out]; exact hn3, hc3, ?_, HB.out⟩
    rw [HE.out]
    exact hlr3

end Go.Proofs.Ytmglnjmnabjjgaa

namespace Go.Proofs.Ytmglnjmnabjjgaa
open Go.RowKit

theorem few_zeroR : fewR zeroR = true := by decide
set_option maxRecDepth 4000 in
theorem few_getR : ∀ {l : List RefP} {id : Int}, (∀ r ∈ l, fewR r = true) → fewR (getR id l).1 = true
  | [], _, _ => few_zeroR
  | x :: l, id, h => by
    rw [getR]
    split
    · exact h x (by simp)
    · exact few_getR fun r hr => h r (by simp [hr])
set_option maxRecDepth 4000 in
theorem few_freeR : ∀ {l : List RefP} {id : Int}, (∀ r ∈ l, fewR r = true) → ∀ r ∈ (freeR id l).1, fewR r = true
  | [], _, _ => by simp [freeR]
  | x :: l, id, h => by
    rw [freeR]
    split
    · exact fun r hr => h r (by simp [hr])
    · split
      · intro r hr
        rcases List.mem_cons.1 hr with rfl | hr
        · exact h _ (by simp)
        · exact few_freeR (fun r hr => h r (by simp [hr])) r hr
      · simp
set_option maxRecDepth 4000 in
theorem free_len : ∀ {l : List RefP} {id : Int}, (freeR id l).1.length ≤ l.length
  | [], _ => Nat.le_refl _
  | x :: l, id => by
    rw [freeR]
    split
    · simp
    · split
      · have := free_len (l := l) (id := id); simp; omega
      · simp

set_option maxRecDepth 100000 in
set_option maxHeartbeats 8000000 in
theorem hfind_0 {w : World} {A : Option Addr} {cs : List RC} {us : List RefP} {n cap : Nat} {id : Int} (h : LR w A cs us) (hn : us.length = n) (h63 : n ≤ 9223372036854775807) (hf : fewRs us = false) : Calls Try.prog 4 #[.slice A n cap, .int .i64 id] w (AllTrue w) := by
  have HL := hd h
  have HN := hd hn
  have HF := hd hf
  clear h hn hf
  go_enter Try.func4, Try.ntmps4
  go_wp2_with (first
    | (go_at_call 6; refine Calls.mono (live14_any _) ?_; rintro e w0 ⟨rfl, b9⟩; have HB := hd (show Below w.heap.size w w0 from b9); clear b9)
    | (go_at_call 8; refine Calls.mono (fewrs_at (HL.out.later HB.out) HN.out h63 HF.out) ?_; rintro e w1 ⟨rfl, b9⟩; have HB := hd (step_b HB.out b9); clear b9))
  go_ret
  exact ⟨rfl, HB.out⟩
set_option maxRecDepth 100000 in
set_option maxHeartbeats 8000000 in
theorem hfind_1 {w : World} {A : Option Addr} {cs : List RC} {us : List RefP} {n cap : Nat} {id : Int} (h : LR w A cs us) (hn : us.length = n) (hcap : n ≤ cap) (hf : fewRs us = true) : Calls Try.prog 4 #[.slice A n cap, .int .i64 id] w (AllTrue w) := by
  have h300 : n ≤ 300 := hn ▸ fewRs_len hf
  have HTU := hd (fun r hr => fewRs_all hf (r := r) hr)
  have HL := hd h
  have HN := hd hn
  have HF := hd hf
  clear h hn hf
  obtain ⟨⟨gr, ge⟩, hg⟩ : ∃ x, getR id us = x := ⟨_, rfl⟩
  obtain ⟨⟨fr, fe⟩, hfr⟩ : ∃ x, freeR id us = x := ⟨_, rfl⟩
  have HG := hd hg
  have HR := hd hfr
  have HGF := hd (show fewR gr = true by have := few_getR (id := id) HTU.out; rw [hg] at this; exact this)
  have HFF := hd (show ∀ r ∈ fr, fewR r = true by have := few_freeR (id := id) HTU.out; rw [hfr] at this; exact this)
  have hfl : fr.length ≤ 300 := by have := free_len (l := us) (id := id); rw [hfr] at this; have := HN.out; simp only at *; omega
  have hee : (ge == ge) = true := by simp
  have hff : (fe == fe) = true := by simp
  clear hg hfr
  go_enter Try.func4, Try.ntmps4
  go_wp2_with (first
    | (go_at_call 6; refine Calls.mono (live14_any _) ?_; rintro e w0 ⟨rfl, b9⟩; have HB := hd (show Below w.heap.size w w0 from b9); clear b9)
    | (go_at_call 8; refine Calls.mono (fewrs_at (HL.out.later HB.out) HN.out (by omega) HF.out) ?_; rintro e w1 ⟨rfl, b9⟩; have HB := hd (step_b HB.out b9); clear b9)
    | (go_at_call 14; refine Calls.mono (HG.out ▸ hget_r (HL.out.later HB.out) HN.out h300 hcap HTU.out) ?_; rintro e w2 ⟨c1, rfl, k1, b9⟩; have HC1 := hd k1; have HB := hd (step_b HB.out b9); clear b9 k1; dsimp only)
    | ((with_reducible refine gd_store (ty := 34) (x := .tmp 5) ?_); refine wpList_store_ref (c := c1) _ _ rfl rfl rfl rfl rfl rfl rfl ?_; have HV5 := hd (ref_var w2 c1).1; have b9 := (ref_var w2 c1).2; have HC1 := hd (HC1.out.later b9); have HB := hd (step_b HB.out b9); clear b9)
    | (go_at_call 15; refine Calls.mono (HG.out ▸ rget_r (HL.out.later HB.out) HN.out (by omega)) ?_; rintro e w3 ⟨c2, rfl, k1, b9⟩; have HC2 := hd k1; have HV5 := hd (HV5.out.keep b9); have HC1 := hd (HC1.out.later b9); have HB := hd (step_b HB.out b9); clear b9 k1; dsimp only)
    | ((with_reducible refine gd_store (ty := 34) (x := .tmp 7) ?_); refine wpList_store_ref (c := c2) _ _ rfl rfl rfl rfl rfl rfl rfl ?_; have HV7 := hd (ref_var w3 c2).1; have b9 := (ref_var w3 c2).2; have HV5 := hd (HV5.out.keep b9); have HC1 := hd (HC1.out.later b9); have HC2 := hd (HC2.out.later b9); have HB := hd (step_b HB.out b9); clear b9)
    | (go_at_call 16; refine Calls.mono (HR.out ▸ hfree_r (HL.out.later HB.out) HN.out h300 hcap HTU.out) ?_; rintro e w4 ⟨A3, n3, c3, cs3, rfl, k0, k1, k2, b9⟩; have HL3 := hd k2; have HN3 := hd k0; have HV5 := hd (HV5.out.keep b9); have HV7 := hd (HV7.out.keep b9); have HC1 := hd (HC1.out.later b9); have HC2 := hd (HC2.out.later b9); have HB := hd (step_b HB.out b9); clear b9 k0 k1 k2; dsimp only)
    | (go_at_call 17; refine Calls.mono (HR.out ▸ rfree_r (HL.out.later HB.out) HN.out h300 hcap) ?_; rintro e w5 ⟨A4, n4, c4, cs4, rfl, k0, k1, k2, b9⟩; have HL4 := hd k2; have HN4 := hd k0; have HL3 := hd (HL3.out.later b9); have HV5 := hd (HV5.out.keep b9); have HV7 := hd (HV7.out.keep b9); have HC1 := hd (HC1.out.later b9); have HC2 := hd (HC2.out.later b9); have HB := hd (step_b HB.out b9); clear b9 k0 k1 k2; dsimp only)
    | ((with_reducible refine gd_load (ty := 34) (x := .tmp 5) ?_); refine wpList_load_row rowT_ref HV5.out rfl _ rfl rfl rfl ?_)
    | ((with_reducible refine gd_load (ty := 34) (x := .tmp 7) ?_); refine wpList_load_row rowT_ref HV7.out rfl _ rfl rfl rfl ?_)
    | (go_at_call 18; refine Calls.mono (rsameref_at HC1.out HC2.out HGF.out HGF.out (samR_self gr)) ?_; rintro e w6 ⟨rfl, b9⟩; have HL3 := hd (HL3.out.later b9); have HL4 := hd (HL4.out.later b9); have HB := hd (step_b HB.out b9); clear b9)
    | (go_at_call 11; refine Calls.mono (rsames_at (us := fr) (vs := fr) HL3.out HL4.out HN3.out HN4.out (by have h1 : fr.length = n3 := HN3.out; omega) (by have h1 : fr.length = n4 := HN4.out; omega) HFF.out HFF.out (samRs_self fr)) ?_; rintro e w7 ⟨rfl, b9⟩; have HB := hd (step_b HB.out b9); clear b9))
  go_ret
  exact ⟨rfl, HB.out⟩
set_option maxRecDepth 4000 in
theorem hfind_law {w : World} {A : Option Addr} {cs : List RC} {us : List RefP} {n cap : Nat} (h : LR w A cs us) (hn : us.length = n) (hcap : n ≤ cap) (h63 : n ≤ 9223372036854775807) (id : Int) : Calls Try.prog 4 #[.slice A n cap, .int .i64 id] w (AllTrue w) := by
  cases hf : fewRs us
  · exact hfind_0 h hn h63 hf
  · exact hfind_1 h hn hcap hf

end Go.Proofs.Ytmglnjmnabjjgaa
