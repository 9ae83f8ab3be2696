/- Get, Free: the program's. Free: the program's. Add: the program's. HoldAdds answers true. HoldKeeps answers true. -/
import Derived.Test.YtmglnjmnabjjgaaJLChkWWK
import Derived.Test.YtmglnjmnabjjgaaJLOpen
import Derived.Test.YtmglnjmnabjjgaaJLFrW
import Derived.Test.YtmglnjmnabjjgaaJLFreshWK
import Derived.Test.YtmglnjmnabjjgaaJLFree
import Derived.StillTailTactics
import Derived.Lib.AppendZeros
import Derived.Test.YtmglnjmnabjjgaaJLStepH
import Derived.Test.YtmglnjmnabjjgaaJTGetAWK
import Derived.Test.YtmglnjmnabjjgaaJKCmp
import Derived.Test.YtmglnjmnabjjgaaJGTextWK
import Derived.Test.YtmglnjmnabjjgaaJGText
import Derived.Test.YtmglnjmnabjjgaaJXMove5
import Derived.Test.YtmglnjmnabjjgaaXMove
import Derived.Test.YtmglnjmnabjjgaaJXCalls
import Derived.Laws.Strings
import Derived.IntWalk
import Derived.Laws.AppendOwnNone
import Derived.Lib.SliceRun
import Derived.Deep.Cut
import Derived.Deep.RegionHeld3
import Derived.Deep.RegionLaw
import Derived.BigRegion
import Derived.Maps.OwnOps
namespace Go.Proofs.Ytmglnjmnabjjgaa
open Go.RowKit
open Go.WideShapes (add_plain)

theorem midR_run (A : Option Addr) (n c k : Nat) (hk : k < n) (hc : n ≤ c) : ∃ D : Option Addr, (∀ (w : World) (cs : List RC) (us : List RefP) (a : RC) (r : RefP), LR w A cs us → cs.length = n → cs[k]? = some a → us[k]? = some r → LR w D [a] [r]) ∧
    (∀ W : World, (Instr.slice 27 (.slice A n c) (some (.int .i64 (k : Int))) (some (.int .i64 ((k : Int) + 1))) none).run Try.prog W = .ok (.slice D 1 (c - k)) W) := by
  refine ⟨A.map (·.add (k * 11)), fun w cs us a r h hx ha hr => (RkL.one (h.ha k a r ha hr)).lr (fun _ => ?_), fun W => ?_⟩
  · obtain ⟨b, o, e, hb, hv⟩ := h.hv (by intro e; have := cellsR_len cs; rw [e, hx] at this; simp at this; omega)
    subst e
    refine ⟨b, o + k * 11, by simp [add_plain], hb, fun j u hj => ?_⟩
    rw [cellsR_one] at hj
    rw [Nat.add_assoc]
    exact hv _ _ (cellsR_at ha j u hj)
  · have he : Try.prog.elem 27 = 34 := by kernel_rfl
    have hs : ∀ W, (sizeOf 34).run Try.prog W = .ok 11 W := fun _ => by kernel_rfl
    rw [run_slice_lh W 27 A n c (by rw [he]; exact Try.underlying27) .i64 .i64 _ _ (by omega) (by omega) (by omega), he, hs]
    have e : ((k : Int) + 1).toNat = k + 1 := by omega
    have e2 : ¬ (c - k = 0) := by omega
    simp [Result.andThen, sliced, e]
    omega

set_option maxRecDepth 100000 in
set_option maxHeartbeats 4000000 in
theorem hget_r {w : World} {A : Option Addr} {cs : List RC} {us : List RefP} {n cap : Nat} {id : Int} (h : LR w A cs us) (hn : us.length = n) (h63 : n ≤ 300) (hcap : n ≤ cap) (tu : ∀ r ∈ us, fewR r = true) : Calls Try.prog 14 #[.slice A n cap, .int .i64 id] w (NewRE w (getR id us)) := by
  have HL := hd h
  have HN := hd hn
  have HTU := hd tu
  clear h hn tu
  go_enter Try.func14, Try.ntmps14
  go_upto_region 1 with fail
  have HV4 := hd (VarR.new w 34 RC.zero.row)
  have HB := hd (show Below w.heap.size w (w.alloc (.cells RC.zero.row 34)) from (ref_var w RC.zero).2)
  have hge : w.heap.size ≤ w.heap.size := Nat.le_refl _
  obtain ⟨W0, hW⟩ : ∃ W0, w.alloc (.cells RC.zero.row 34) = W0 := ⟨_, rfl⟩
  unfold RC.row RC.zero at hW HV4 HB
  rw [hW] at HV4 HB ⊢
  clear hW
  go_upto_region 2 with (go_at_call 30; refine (hfnd_any (HL.out.later HB.out) HN.out (by omega)).mono ?_; rintro e w1 ⟨i, rfl, hi, b9⟩; have HI := hd hi; have HV4 := hd (HV4.out.keep b9); have HB := hd (step_b HB.out b9); clear hi b9)
  rcases HI.out with ⟨rfl, hno⟩ | ⟨k, rfl, hk, hf⟩
  · have HE := hd (getR_no hno)
    clear hno HI
    go_wp2_with (first
      | ((with_reducible refine gd_store (ty := 34) (x := .tmp 4) ?_); refine wpList_store_row2 rowT_ref (r := RC.zero.row) HV4.out rfl rfl RC.zero.one _ _ rfl rfl rfl rfl rfl ?_; intro W9 hv9 ho9; have HB := hd (off_step HB.out ho9 (Nat.le_refl _)); have HV4 := hd hv9; clear hv9 ho9))
    refine bodyPost_ret (result_ref2 Try.results14 _ _ HV4.out rfl) rfl ⟨RC.zero, by rw [HE.out]; rfl, ?_, HB.out⟩
    rw [HE.out]
    exact RkA.zero _
  · rw [HN.out] at hk
    obtain ⟨b, o, c, r, eA, _, hc, hr, _, _⟩ := HL.out.at_ (k := k) (by rw [HN.out]; exact hk)
    have HE := hd (getR_at hf hr)
    obtain ⟨D, hD, hrun⟩ := midR_run A n cap k hk hcap
    have HD := hd (hD w1 cs us c r (HL.out.later HB.out) (by rw [HL.out.hl]; exact HN.out) hc hr)
    have HH := hd (show HeldR (fun x => x = w.heap.size) w1 [c] [r] from fun W ho => RkL.one ((HL.out.ha k c r hc hr).later (HB.out.trans (ho.below HB.out.size (fun x hx => by omega)))))
    have HF1 := hd (show ∀ x, x = w.heap.size → x < w1.heap.size from fun x hx => by rw [hx]; exact HV4.out.lt)
    have HTR := hd (show ∀ x ∈ [r], tinyR x from fun x hx => by
      simp at hx
      subst hx
      exact tiny_few (HTU.out _ (List.mem_of_getElem? hr)))
    clear hf hr hc HI hD eA
    have hs1 : (k : Int) + 1 ≤ cap := by omega
    go_wp2_with (first
      | (go_at_call 22; refine (hfresh_f HD.out HH.out HF1.out rfl (by simp) HTR.out).mono ?_; rintro e w2 hnf; obtain ⟨b2, o2, c2, d, rfl, hc2, hrg, hrk, b9⟩ := hnf.one; have HV4 := hd (HV4.out.keep b9); have HB := hd (step_b HB.out b9); have HK2 := hd hrk; have HR := hd hrg; clear b9 hnf hrk hrg)
      | ((with_reducible refine gd_load (ty := 34) (x := .tmp 19) ?_); refine wpList_load_ref HR.out _ rfl rfl rfl ?_)
      | ((with_reducible refine gd_store (ty := 34) (x := .tmp 4) ?_); refine wpList_store_row2 rowT_ref (r := d.row) HV4.out rfl rfl d.one _ _ rfl rfl rfl rfl rfl ?_; intro W9 hv9 ho9; have HB := hd (off_step HB.out ho9 (Nat.le_refl _)); have HV4 := hd hv9; clear hv9))
    refine bodyPost_ret (result_ref2 Try.results14 _ _ HV4.out rfl) rfl ⟨d, by rw [HE.out]; rfl, ?_, HB.out⟩
    rw [HE.out]
    exact HK2.out _ (OffF.of_off ho9 rfl)

end Go.Proofs.Ytmglnjmnabjjgaa

namespace Go.Proofs.Ytmglnjmnabjjgaa
open Go.RowKit
set_option maxRecDepth 100000 in
set_option maxHeartbeats 8000000 in
theorem hfree_r {w : World} {A : Option Addr} {cs : List RC} {us : List RefP} {n cap : Nat} {id : Int} (h : LR w A cs us) (hn : us.length = n) (h63 : n ≤ 300) (hcap : n ≤ cap) (tu : ∀ r ∈ us, fewR r = true) : Calls Try.prog 16 #[.slice A n cap, .int .i64 id] w (NewLE w (freeR id us)) := by
  have HL := hd h
  have HN := hd hn
  have HTU := hd tu
  clear h hn tu
  go_enter Try.func16, Try.ntmps16
  go_upto_region 2 with (go_at_call 30; refine (hfnd_any HL.out HN.out (by omega)).mono ?_; rintro e w1 ⟨i, rfl, hi, b9⟩; have HI := hd hi; have HB := hd b9; clear hi b9)
  rcases HI.out with ⟨rfl, hno⟩ | ⟨k, rfl, hk, hf⟩
  · have HE := hd (freeR_no hno)
    clear hno HI
    go_wp2_with fail
    go_ret2
    refine ⟨none, 0, 0, [], by rw [HE.out]; rfl, by rw [HE.out]; rfl, Nat.le_refl _, ?_, HB.out⟩
    rw [HE.out]
    exact LR.nil _ _
  · rw [HN.out] at hk
    have HE := hd (freeR_at hf)
    obtain ⟨D, hD1, hD2⟩ := cutR_run A n cap (k + 1) hk hcap
    have hT := takeR_run A n cap k (by omega)
    have HD1 := hd hD1
    have HD2 := hd hD2
    have HT := hd hT
    have HTR := hd (show ∀ x ∈ us.take k ++ us.drop (k + 1), tinyR x from fun x hx => by
      rcases List.mem_append.1 hx with h1 | h1
      · exact tiny_few (HTU.out _ (List.mem_of_mem_take h1))
      · exact tiny_few (HTU.out _ (List.mem_of_mem_drop h1)))
    clear hf HI hD1 hD2 hT
    go_upto_region 4 with fail
    refine Y_start (S := fun _ => True) (z := fun _ => false) (by kernel_rfl) ?_
    refine Y_take (i := 0) (n := 11) (.slice A n cap) rfl (by kernel_rfl) (by kernel_rfl) (by kernel_rfl) (by kernel_rfl) (fun _ _ _ h => h) (by rfl) (fun W9 hW9 => ?_) trivial ?_
    · go_simp
    simp only [Act.put, List.setIfInBounds_toArray, List.set_cons_succ, List.set_cons_zero, List.getElem_toArray, List.getElem_cons_zero]
    refine Y_take (i := 1) (n := 10) (.int .i64 (k : Int)) rfl (by kernel_rfl) (by kernel_rfl) (by kernel_rfl) (by kernel_rfl) (fun _ _ _ h => h) (by rfl) (fun W9 hW9 => ?_) trivial ?_
    · go_simp
    simp only [Act.put, List.setIfInBounds_toArray, List.set_cons_succ, List.set_cons_zero, List.getElem_toArray, List.getElem_cons_succ, List.getElem_cons_zero]
    refine Y_take (i := 2) (n := 9) (.slice A k cap) rfl (by kernel_rfl) (by kernel_rfl) (by kernel_rfl) (by kernel_rfl) (fun _ _ _ h => h) (by rfl) (fun W9 hW9 => ?_) trivial ?_
    · exact exec_slice_h HT.out rfl rfl rfl W9
    simp only [Act.put, List.setIfInBounds_toArray, List.set_cons_succ, List.set_cons_zero, List.getElem_toArray, List.getElem_cons_succ, List.getElem_cons_zero]
    refine Y_take (i := 3) (n := 8) (.slice A n cap) rfl (by kernel_rfl) (by kernel_rfl) (by kernel_rfl) (by kernel_rfl) (fun _ _ _ h => h) (by rfl) (fun W9 hW9 => ?_) trivial ?_
    · go_simp
    simp only [Act.put, List.setIfInBounds_toArray, List.set_cons_succ, List.set_cons_zero, List.getElem_toArray, List.getElem_cons_succ, List.getElem_cons_zero]
    refine Y_take (i := 4) (n := 7) (.int .i64 (k : Int)) rfl (by kernel_rfl) (by kernel_rfl) (by kernel_rfl) (by kernel_rfl) (fun _ _ _ h => h) (by rfl) (fun W9 hW9 => ?_) trivial ?_
    · go_simp
    simp only [Act.put, List.setIfInBounds_toArray, List.set_cons_succ, List.set_cons_zero, List.getElem_toArray, List.getElem_cons_succ, List.getElem_cons_zero]
    refine Y_take (i := 5) (n := 6) (.int .i64 ((k + 1 : Nat) : Int)) rfl (by kernel_rfl) (by kernel_rfl) (by kernel_rfl) (by kernel_rfl) (fun _ _ _ h => h) (by rfl) (fun W9 hW9 => ?_) trivial ?_
    · go_simp
      exact lwrap _ (by omega) (by omega)
    simp only [Act.put, List.setIfInBounds_toArray, List.set_cons_succ, List.set_cons_zero, List.getElem_toArray, List.getElem_cons_succ, List.getElem_cons_zero]
    refine Y_take (i := 6) (n := 5) (.slice D (n - (k + 1)) (cap - (k + 1))) rfl (by kernel_rfl) (by kernel_rfl) (by kernel_rfl) (by kernel_rfl) (fun _ _ _ h => h) (by rfl) (fun W9 hW9 => ?_) trivial ?_
    · exact exec_slice_l HD2.out rfl rfl rfl W9
    simp only [Act.put, List.setIfInBounds_toArray, List.set_cons_succ, List.set_cons_zero, List.getElem_toArray, List.getElem_cons_succ, List.getElem_cons_zero]
    have HB := hd (HB.out.drew)
    generalize w1.drew = W at HB ⊢
    refine Y_one (i := 7) (n := 4) (by kernel_rfl) rfl (fun K hK => ?_)
    rw [if_pos (by rfl)]
    go_simp
    have hb2 : Below W.heap.size W (W.alloc (.cells #[.slice A k cap, .slice D (n - (k + 1)) (cap - (k + 1))] 27)) := (Below.refl _ _).alloc (Nat.le_refl _) _
    have HL2 := hd ((HL.out.later HB.out).later hb2)
    have HC := hd (hconcat_any (n := k) (m := n - (k + 1)) (c := cap) (d := cap - (k + 1)) (cap := 2) (b := W.heap.size) (o := 0) (cs := cs.take k) (ds := cs.drop (k + 1)) (w := W.alloc (.cells #[.slice A k cap, .slice D (n - (k + 1)) (cap - (k + 1))] 27)) (by rw [List.length_take, HL.out.hl, HN.out]; omega) (by rw [List.length_drop, HL.out.hl, HN.out]) (by omega) (by omega) (by simp) (by rw [World.cell?_alloc_at _ _ _ _ rfl]; rfl) (by rw [World.cell?_alloc_at _ _ _ _ rfl]; rfl)
      (by rw [← cellsR_take]; exact HL2.out.hv.take _) (HD1.out _ _ _ HL2.out.hv (by rw [HL.out.hl, HN.out])))
    have HRK := hd ((HL2.out.rk.take k).app (HL2.out.rk.drop (k + 1)))
    have HB := hd (HB.out.trans (hb2.mono HB.out.size))
    clear hb2 HL2
    refine hK _ _ (fun _ => trivial) ?_
    clear hK K
    refine Y_one (i := 8) (n := 3) (by kernel_rfl) rfl (fun K hK => ?_)
    rw [if_pos (by rfl)]
    go_simp
    go_at_call 23
    refine HC.out.mono ?_
    rintro e w2 hnr
    obtain ⟨A2, c2, rfl, hlr, b9⟩ := hnr.lr HRK.out
    have HLR := hd hlr
    have HB := hd (step_b HB.out b9)
    clear hnr hlr b9 HC HRK
    refine hK _ _ (fun _ => trivial) ?_
    clear hK K
    refine Y_one (i := 9) (n := 2) (by kernel_rfl) rfl (fun K hK => ?_)
    rw [if_pos (by rfl)]
    go_simp
    go_at_call 22
    refine (hfresh_any HLR.out (by rw [List.length_append, List.length_take, List.length_drop, HN.out]; omega) (by omega) HTR.out).mono ?_
    rintro e w3 hnf
    obtain ⟨A3, n3, c3, ds, rfl, hn3, hc3, hlr3, b9⟩ := hnf.lr
    have HB := hd (step_b HB.out b9)
    refine hK _ _ (fun _ => trivial) ?_
    clear hK K hnf b9
    refine Y_one (i := 10) (n := 1) (by kernel_rfl) rfl (fun K hK => ?_)
    rw [if_pos (by rfl)]
    go_simp
    refine hK _ _ (fun _ => trivial) ?_
    clear hK K
    refine Y_one (i := 11) (n := 0) (by kernel_rfl) rfl (fun K hK => ?_)
    rw [if_pos (by rfl)]
    go_simp
    refine hK _ _ (fun _ => trivial) (Y_done (by kernel_rfl) ?_)
    clear hK K
    go_wp2_with fail
    go_ret2
    refine ⟨A3, n3, c3, ds, by rw [HE.out]; rfl, by rw [HE.out]; exact hn3, hc3, ?_, HB.out⟩
    rw [HE.out]
    exact hlr3

end Go.Proofs.Ytmglnjmnabjjgaa

namespace Go.Proofs.Ytmglnjmnabjjgaa
open Go.RowKit

theorem hgd_build {P : Program} {ops : Array Oper} {Q : Exit → Act → World → Prop} {dst : Option Nat} {ty : TypeId} {k : Nat} {ps : Array (Nat × Operand)} {t : TypeId} {pos : String} {af : Array Edge} {rest : List Oper} {a : Act} {w : World} (h : wpList P ops Q ({ dst := dst, op := .buildSlice ty k ps, type := t, pos := pos, after := af, guard := none } :: rest) a w) : wpList P ops Q ({ dst := dst, op := .buildSlice ty k ps, type := t, pos := pos, after := af, guard := none } :: rest) a w := h
set_option maxRecDepth 100000 in
set_option maxHeartbeats 8000000 in
theorem hadd_1 {w : World} {A : Option Addr} {us : List RefP} {m cap : Nat} {id : Int} {c : NC} {d : RC} {n : NT} {r : RefP} (hn : HasN w c n) (hr : RkA w d r) (hf : fewR r = true) (hE : (chkR n r != 0) = true) : Calls Try.prog 9 #[.agg c.row, .slice A m cap, .int .i64 id, .agg d.row] w (NewLE w (addR n us id r)) := by
  obtain ⟨W0, hW, hst⟩ := s2_vars hn hr
  have HW := hd hW
  have HS := hd hst
  have HF := hd hf
  clear hW hst hn hr hf
  have hX : addR n us id r = ([], chkR n r) := by rw [addR, if_pos (by simpa using hE)]
  obtain ⟨E, he⟩ : ∃ E, chkR n r = E := ⟨_, rfl⟩
  rw [he] at hE hX
  have HE := hd he
  have HX := hd hX
  clear he hX
  go_enter Try.func9, Try.ntmps9
  go_upto_region 1 with fail
  rw [HW.out]
  go_wp2_with (first
    | ((with_reducible refine gd_load (ty := 26) (x := .tmp 4) ?_); refine wpList_load_row rowT_node HS.out.v1 rfl _ rfl rfl rfl ?_)
    | ((with_reducible refine gd_load (ty := 34) (x := .tmp 7) ?_); refine wpList_load_row rowT_ref HS.out.v2 rfl _ rfl rfl rfl ?_)
    | (go_at_call 12; refine Calls.mono (hchk_r HS.out.hn HS.out.hr HF.out HE.out) ?_; rintro e w9 ⟨rfl, b9⟩; have HS := hd (HS.out.call b9); clear b9))
  go_ret2
  refine ⟨none, 0, 0, [], by rw [HX.out]; rfl, by rw [HX.out]; rfl, Nat.le_refl _, ?_, HS.out.below⟩
  rw [HX.out]
  exact LR.nil _ _
set_option maxRecDepth 100000 in
set_option maxHeartbeats 8000000 in
theorem hadd_2 {w : World} {A : Option Addr} {us : List RefP} {m cap : Nat} {id : Int} {c : NC} {d : RC} {n : NT} {r : RefP} (hn : HasN w c n) (hm : us.length = m) (hr : RkA w d r) (hf : fewR r = true) (hE : chkR n r = 0) (hl : 256 ≤ m) (h63 : m ≤ 300) : Calls Try.prog 9 #[.agg c.row, .slice A m cap, .int .i64 id, .agg d.row] w (NewLE w (addR n us id r)) := by
  obtain ⟨W0, hW, hst⟩ := s2_vars hn hr
  have HW := hd hW
  have HS := hd hst
  have HF := hd hf
  clear hW hst hn hr hf
  have HX := hd (show addR n us id r = ([], 2) by rw [addR, if_neg (by simp [hE]), if_pos (by omega)])
  have HE := hd hE
  clear hE hm
  go_enter Try.func9, Try.ntmps9
  go_upto_region 1 with fail
  rw [HW.out]
  go_wp2_with (first
    | ((with_reducible refine gd_load (ty := 26) (x := .tmp 4) ?_); refine wpList_load_row rowT_node HS.out.v1 rfl _ rfl rfl rfl ?_)
    | ((with_reducible refine gd_load (ty := 34) (x := .tmp 7) ?_); refine wpList_load_row rowT_ref HS.out.v2 rfl _ rfl rfl rfl ?_)
    | (go_at_call 12; refine Calls.mono (hchk_r HS.out.hn HS.out.hr HF.out HE.out) ?_; rintro e w9 ⟨rfl, b9⟩; have HS := hd (HS.out.call b9); clear b9))
  go_ret2
  refine ⟨none, 0, 0, [], by rw [HX.out]; rfl, by rw [HX.out]; rfl, Nat.le_refl _, ?_, HS.out.below⟩
  rw [HX.out]
  exact LR.nil _ _
set_option maxRecDepth 100000 in
set_option maxHeartbeats 8000000 in
theorem hadd_3 {w : World} {A : Option Addr} {cs : List RC} {us : List RefP} {m cap : Nat} {id : Int} {c : NC} {d : RC} {n : NT} {r : RefP} (hn : HasN w c n) (h : LR w A cs us) (hm : us.length = m) (_hcap : m ≤ cap) (tu : ∀ r ∈ us, fewR r = true) (hr : RkA w d r) (hf : fewR r = true) (hE : chkR n r = 0) (hl : m < 256) : Calls Try.prog 9 #[.agg c.row, .slice A m cap, .int .i64 id, .agg d.row] w (NewLE w (addR n us id r)) := by
  have hb0 := hr
  obtain ⟨W0, hW, hst⟩ := s2_vars hn hr
  have HW := hd hW
  have HS := hd hst
  have HF := hd hf
  clear hW hst hn hr hf
  have HX := hd (show addR n us id r = (us ++ [withR id r], 0) by rw [addR, if_neg (by simp [hE]), if_neg (by omega)])
  have HR := hd hb0
  have HE := hd hE
  have HL := hd h
  have HM := hd hm
  have HTR := hd (show ∀ x ∈ us ++ [withR id r], tinyR x from fun x hx => by
    rcases List.mem_append.1 hx with h1 | h1
    · exact tiny_few (tu _ h1)
    · simp at h1
      subst h1
      exact tiny_few (show fewR (withR id r) = true from HF.out))
  clear hE h hm hb0 tu
  go_enter Try.func9, Try.ntmps9
  go_upto_region 1 with fail
  rw [HW.out]
  go_upto_region 6 with (first
    | ((with_reducible refine gd_load (ty := 26) (x := .tmp 4) ?_); refine wpList_load_row rowT_node HS.out.v1 rfl _ rfl rfl rfl ?_)
    | ((with_reducible refine gd_load (ty := 34) (x := .tmp 7) ?_); refine wpList_load_row rowT_ref HS.out.v2 rfl _ rfl rfl rfl ?_)
    | (go_at_call 12; refine Calls.mono (hchk_r HS.out.hn HS.out.hr HF.out HE.out) ?_; rintro e w9 ⟨rfl, b9⟩; have HS := hd (HS.out.call b9); clear b9))
  have HB := hd HS.out.below
  have HV2 := hd HS.out.v2
  clear HS
  go_upto_region 7 with (first
    | ((with_reducible refine gd_store (ty := 3) (x := .tmp 21) ?_); refine wpList_store_cell sz_int HV2.out _ _ rfl rfl rfl 0 (.int .i64 id) rfl rfl rfl rfl (show 0 < 11 by omega) ?_; intro W9 hv9 ho9; have HB := hd (off_step HB.out ho9 (by omega)); have HV2 := hd (show VarR 34 W9 (w.heap.size + 1) ({ d with id := id } : RC).row from hv9); clear hv9 ho9)
    | ((with_reducible refine gd_store (ty := 4) (x := .tmp 22) ?_); refine wpList_store_cell lsz_bool HV2.out _ _ rfl rfl rfl 3 (.bool true) rfl rfl rfl rfl (show 3 < 11 by omega) ?_; intro W8 hv9 ho9; have HB := hd (off_step HB.out ho9 (by omega)); have HV2 := hd (show VarR 34 W8 (w.heap.size + 1) ({ d with id := id, live := true } : RC).row from hv9); clear hv9 ho9))
  obtain ⟨d', hd'⟩ : ∃ d' : RC, { d with id := id, live := true } = d' := ⟨_, rfl⟩
  have HO := hd (show RkA w d' (withR id r) from hd' ▸ HR.out.with_ id)
  rw [hd'] at HV2
  clear hd' HR
  have HL := hd (HL.out.later HB.out)
  have HO := hd (HO.out.later HB.out)
  go_wp2_with (first
    | ((with_reducible refine gd_load (ty := 34) (x := .tmp 7) ?_); refine wpList_load_row rowT_ref HV2.out rfl _ rfl rfl rfl ?_)
    | ((with_reducible refine hgd_build (ty := 27) (k := 1) ?_); refine wpList_build_ref (c := d') _ rfl rfl rfl ?_; have HLO := hd (one_lr HO.out); have b9 := (ref_var W8 d').2; have HL := hd (HL.out.later b9); have HO := hd (HO.out.later b9); have HB := hd (step_b HB.out b9); clear b9; generalize hW1 : W8.alloc (.cells d'.row 34) = W1; rw [hW1] at HLO HL HO HB; clear hW1)
    | (go_at_call 23; have b9 := (Below.refl W1.heap.size W1).alloc (Nat.le_refl _) (.cells #[.slice A m cap, .slice (some ⟨W8.heap.size, 0, none⟩) 1 1] 27); have HL := hd (HL.out.later b9); have HLO := hd (HLO.out.later b9); have HB := hd (step_b HB.out b9); clear b9; refine Calls.mono (hconcat_any (n := m) (m := 1) (c := cap) (d := 1) (cs := cs) (ds := [d']) (by rw [HL.out.hl, HM.out]) rfl (by omega) (by omega) (by simp) (by rw [World.cell?_alloc_at _ _ _ _ rfl]; rfl) (by rw [World.cell?_alloc_at _ _ _ _ rfl]; rfl) HL.out.hv HLO.out.hv) ?_; rintro e w2 hnr; obtain ⟨A2, c2, rfl, hlr, b9⟩ := hnr.lr (HL.out.rk.app HLO.out.rk); have HLR := hd hlr; have HB := hd (step_b HB.out b9); clear hnr hlr b9)
    | (go_at_call 22; refine (hfresh_any HLR.out (by rw [List.length_append, HM.out]; rfl) (by omega) HTR.out).mono ?_; rintro e w3 hnf; obtain ⟨A3, n3, c3, ds, rfl, hn3, hc3, hlr3, b9⟩ := hnf.lr; have HB := hd (step_b HB.out b9); have HL3 := hd hlr3; have HN3 := hd hn3; clear hnf b9 hlr3 hn3))
  go_ret2
  refine ⟨A3, n3, c3, ds, by rw [HX.out]; rfl, by rw [HX.out]; exact HN3.out, hc3, ?_, HB.out⟩
  rw [HX.out]
  exact HL3.out
set_option maxRecDepth 4000 in
theorem hadd_r {w : World} {A : Option Addr} {cs : List RC} {us : List RefP} {m cap : Nat} {id : Int} {c : NC} {d : RC} {n : NT} {r : RefP} (hn : HasN w c n) (h : LR w A cs us) (hm : us.length = m) (h63 : m ≤ 300) (hcap : m ≤ cap) (tu : ∀ r ∈ us, fewR r = true) (hr : RkA w d r) (hf : fewR r = true) : Calls Try.prog 9 #[.agg c.row, .slice A m cap, .int .i64 id, .agg d.row] w (NewLE w (addR n us id r)) := by
  cases he : (chkR n r != 0)
  · have he : chkR n r = 0 := by simpa using he
    rcases Nat.lt_or_ge m 256 with h1 | h1
    · exact hadd_3 hn h hm hcap tu hr hf he h1
    · exact hadd_2 hn hm hr hf he h1 h63
  · exact hadd_1 hn hr hf he

end Go.Proofs.Ytmglnjmnabjjgaa

namespace Go.Proofs.Ytmglnjmnabjjgaa
open Go.RowKit

theorem few_addR {n : NT} {l : List RefP} {id : Int} {r : RefP} (h : ∀ x ∈ l, fewR x = true) (hr : fewR r = true) : ∀ x ∈ (addR n l id r).1, fewR x = true := by
  unfold addR
  split
  · simp
  · split
    · simp
    · intro x hx
      rcases List.mem_append.1 hx with h1 | h1
      · exact h x h1
      · simp at h1
        subst h1
        exact hr
end Go.Proofs.Ytmglnjmnabjjgaa

namespace Go.Proofs.Ytmglnjmnabjjgaa
open Go.RowKit

set_option maxRecDepth 100000 in
set_option maxHeartbeats 8000000 in
theorem hkeeps_0 {w : World} {A : Option Addr} {cs : List RC} {us : List RefP} {m cap : Nat} {id : Int} {c : NC} {d : RC} {n : NT} {r : RefP} (hn : HasN w c n) (h : LR w A cs us) (hm : us.length = m) (_h63 : m ≤ 9223372036854775807) (hr : RkA w d r) (f1 : fewB 100 n = false) : Calls Try.prog 5 #[.agg c.row, .slice A m cap, .int .i64 id, .agg d.row] w (AllTrue w) := by
  have F1 := hd f1
  clear f1
  obtain ⟨W0, hW, hb0, v1, v2⟩ := lvars2 w 26 34 c.row d.row
  have HV1 := hd v1
  have HV2 := hd v2
  have HB := hd hb0
  have HW := hd hW
  have HN := hd hn
  have HR := hd hr
  have HL := hd h
  have HM := hd hm
  clear v1 v2 hb0 hW hn hr h hm
  go_enter Try.func5, Try.ntmps5
  go_upto_region 1 with fail
  rw [HW.out]
  go_wp2_with (first
    | (go_at_call 6; refine Calls.mono (live14_any _) ?_; rintro e w0 ⟨rfl, b9⟩; have HV1 := hd (HV1.out.keep b9); have HV2 := hd (HV2.out.keep b9); have HB := hd (step_b HB.out b9); clear b9)
    | ((with_reducible refine gd_load (ty := 26) (x := .tmp 4) ?_); refine wpList_load_row rowT_node HV1.out rfl _ rfl rfl rfl ?_)
    | (go_at_call 7; obtain ⟨dn, hdn⟩ := HN.out.later HB.out; refine Calls.mono (F1.out ▸ few_any dn _ _ _ _ (by unfold In64; omega) hdn) ?_; clear hdn; rintro e w1 ⟨rfl, b9⟩; have HV1 := hd (HV1.out.keep b9); have HV2 := hd (HV2.out.keep b9); have HB := hd (step_b HB.out b9); clear b9)
    | (go_at_call 8; have _g := F2; refine Calls.mono (fewrs_at (HL.out.later HB.out) HM.out h63 F2.out) ?_; clear F2; rintro e w2 ⟨rfl, b9⟩; have HV1 := hd (HV1.out.keep b9); have HV2 := hd (HV2.out.keep b9); have HB := hd (step_b HB.out b9); clear b9)
    | ((with_reducible refine gd_loadg (ty := 34) (x := .tmp 7) ?_); refine wpList_load_rowg rowT_ref HV2.out rfl _ rfl (by rfl) rfl ?_)
    | ((with_reducible refine gd_buildg (ty := 27) (k := 1) ?_); refine wpList_build_refg (c := d) _ rfl (by rfl) rfl ?_; have HLR := hd (one_lr (HR.out.later HB.out)); have b9 := (ref_var w2 d).2; have HV1 := hd (HV1.out.keep b9); have HV2 := hd (HV2.out.keep b9); have HB := hd (step_b HB.out b9); clear b9)
    | (go_at_call 8; have _g := F3; refine Calls.mono (fewrs_at HLR.out rfl (by omega) F3.out) ?_; clear F3; rintro e w3 ⟨rfl, b9⟩; have HV1 := hd (HV1.out.keep b9); have HV2 := hd (HV2.out.keep b9); have HB := hd (step_b HB.out b9); clear b9))
  go_ret
  exact ⟨rfl, HB.out⟩
set_option maxRecDepth 100000 in
set_option maxHeartbeats 8000000 in
theorem hkeeps_1 {w : World} {A : Option Addr} {cs : List RC} {us : List RefP} {m cap : Nat} {id : Int} {c : NC} {d : RC} {n : NT} {r : RefP} (hn : HasN w c n) (h : LR w A cs us) (hm : us.length = m) (h63 : m ≤ 9223372036854775807) (hr : RkA w d r) (f1 : fewB 100 n = true) (f2 : fewRs us = false) : Calls Try.prog 5 #[.agg c.row, .slice A m cap, .int .i64 id, .agg d.row] w (AllTrue w) := by
  have F1 := hd f1
  have F2 := hd f2
  clear f1 f2
  obtain ⟨W0, hW, hb0, v1, v2⟩ := lvars2 w 26 34 c.row d.row
  have HV1 := hd v1
  have HV2 := hd v2
  have HB := hd hb0
  have HW := hd hW
  have HN := hd hn
  have HR := hd hr
  have HL := hd h
  have HM := hd hm
  clear v1 v2 hb0 hW hn hr h hm
  go_enter Try.func5, Try.ntmps5
  go_upto_region 1 with fail
  rw [HW.out]
  go_wp2_with (first
    | (go_at_call 6; refine Calls.mono (live14_any _) ?_; rintro e w0 ⟨rfl, b9⟩; have HV1 := hd (HV1.out.keep b9); have HV2 := hd (HV2.out.keep b9); have HB := hd (step_b HB.out b9); clear b9)
    | ((with_reducible refine gd_load (ty := 26) (x := .tmp 4) ?_); refine wpList_load_row rowT_node HV1.out rfl _ rfl rfl rfl ?_)
    | (go_at_call 7; obtain ⟨dn, hdn⟩ := HN.out.later HB.out; refine Calls.mono (F1.out ▸ few_any dn _ _ _ _ (by unfold In64; omega) hdn) ?_; clear hdn; rintro e w1 ⟨rfl, b9⟩; have HV1 := hd (HV1.out.keep b9); have HV2 := hd (HV2.out.keep b9); have HB := hd (step_b HB.out b9); clear b9)
    | (go_at_call 8; have _g := F2; refine Calls.mono (fewrs_at (HL.out.later HB.out) HM.out h63 F2.out) ?_; clear F2; rintro e w2 ⟨rfl, b9⟩; have HV1 := hd (HV1.out.keep b9); have HV2 := hd (HV2.out.keep b9); have HB := hd (step_b HB.out b9); clear b9)
    | ((with_reducible refine gd_loadg (ty := 34) (x := .tmp 7) ?_); refine wpList_load_rowg rowT_ref HV2.out rfl _ rfl (by rfl) rfl ?_)
    | ((with_reducible refine gd_buildg (ty := 27) (k := 1) ?_); refine wpList_build_refg (c := d) _ rfl (by rfl) rfl ?_; have HLR := hd (one_lr (HR.out.later HB.out)); have b9 := (ref_var w2 d).2; have HV1 := hd (HV1.out.keep b9); have HV2 := hd (HV2.out.keep b9); have HB := hd (step_b HB.out b9); clear b9)
    | (go_at_call 8; have _g := F3; refine Calls.mono (fewrs_at HLR.out rfl (by omega) F3.out) ?_; clear F3; rintro e w3 ⟨rfl, b9⟩; have HV1 := hd (HV1.out.keep b9); have HV2 := hd (HV2.out.keep b9); have HB := hd (step_b HB.out b9); clear b9))
  go_ret
  exact ⟨rfl, HB.out⟩
set_option maxRecDepth 100000 in
set_option maxHeartbeats 8000000 in
theorem hkeeps_2 {w : World} {A : Option Addr} {cs : List RC} {us : List RefP} {m cap : Nat} {id : Int} {c : NC} {d : RC} {n : NT} {r : RefP} (hn : HasN w c n) (h : LR w A cs us) (hm : us.length = m) (h63 : m ≤ 9223372036854775807) (hr : RkA w d r) (f1 : fewB 100 n = true) (f2 : fewRs us = true) (f3 : fewRs [r] = false) : Calls Try.prog 5 #[.agg c.row, .slice A m cap, .int .i64 id, .agg d.row] w (AllTrue w) := by
  have F1 := hd f1
  have F2 := hd f2
  have F3 := hd f3
  clear f1 f2 f3
  obtain ⟨W0, hW, hb0, v1, v2⟩ := lvars2 w 26 34 c.row d.row
  have HV1 := hd v1
  have HV2 := hd v2
  have HB := hd hb0
  have HW := hd hW
  have HN := hd hn
  have HR := hd hr
  have HL := hd h
  have HM := hd hm
  clear v1 v2 hb0 hW hn hr h hm
  go_enter Try.func5, Try.ntmps5
  go_upto_region 1 with fail
  rw [HW.out]
  go_wp2_with (first
    | (go_at_call 6; refine Calls.mono (live14_any _) ?_; rintro e w0 ⟨rfl, b9⟩; have HV1 := hd (HV1.out.keep b9); have HV2 := hd (HV2.out.keep b9); have HB := hd (step_b HB.out b9); clear b9)
    | ((with_reducible refine gd_load (ty := 26) (x := .tmp 4) ?_); refine wpList_load_row rowT_node HV1.out rfl _ rfl rfl rfl ?_)
    | (go_at_call 7; obtain ⟨dn, hdn⟩ := HN.out.later HB.out; refine Calls.mono (F1.out ▸ few_any dn _ _ _ _ (by unfold In64; omega) hdn) ?_; clear hdn; rintro e w1 ⟨rfl, b9⟩; have HV1 := hd (HV1.out.keep b9); have HV2 := hd (HV2.out.keep b9); have HB := hd (step_b HB.out b9); clear b9)
    | (go_at_call 8; have _g := F2; refine Calls.mono (fewrs_at (HL.out.later HB.out) HM.out h63 F2.out) ?_; clear F2; rintro e w2 ⟨rfl, b9⟩; have HV1 := hd (HV1.out.keep b9); have HV2 := hd (HV2.out.keep b9); have HB := hd (step_b HB.out b9); clear b9)
    | ((with_reducible refine gd_loadg (ty := 34) (x := .tmp 7) ?_); refine wpList_load_rowg rowT_ref HV2.out rfl _ rfl (by rfl) rfl ?_)
    | ((with_reducible refine gd_buildg (ty := 27) (k := 1) ?_); refine wpList_build_refg (c := d) _ rfl (by rfl) rfl ?_; have HLR := hd (one_lr (HR.out.later HB.out)); have b9 := (ref_var w2 d).2; have HV1 := hd (HV1.out.keep b9); have HV2 := hd (HV2.out.keep b9); have HB := hd (step_b HB.out b9); clear b9)
    | (go_at_call 8; have _g := F3; refine Calls.mono (fewrs_at HLR.out rfl (by omega) F3.out) ?_; clear F3; rintro e w3 ⟨rfl, b9⟩; have HV1 := hd (HV1.out.keep b9); have HV2 := hd (HV2.out.keep b9); have HB := hd (step_b HB.out b9); clear b9))
  go_ret
  exact ⟨rfl, HB.out⟩
set_option maxRecDepth 100000 in
set_option maxHeartbeats 16000000 in
theorem hkeeps_3 {w : World} {A : Option Addr} {cs : List RC} {us : List RefP} {m cap : Nat} {id : Int} {c : NC} {d : RC} {n : NT} {r : RefP} (hn : HasN w c n) (h : LR w A cs us) (hm : us.length = m) (hcap : m ≤ cap) (hr : RkA w d r) (f1 : fewB 100 n = true) (f2 : fewRs us = true) (f3 : fewRs [r] = true) : Calls Try.prog 5 #[.agg c.row, .slice A m cap, .int .i64 id, .agg d.row] w (AllTrue w) := by
  have F1 := hd f1
  have F2 := hd f2
  have F3 := hd f3
  have h300 : m ≤ 300 := hm ▸ fewRs_len f2
  have h63 : m ≤ 9223372036854775807 := by omega
  have HTU := hd (fun x hx => fewRs_all f2 (r := x) hx)
  have HRF := hd (fewRs_all f3 (r := r) (by simp))
  clear f1 f2 f3
  obtain ⟨W0, hW, hb0, v1, v2⟩ := lvars2 w 26 34 c.row d.row
  have HV1 := hd v1
  have HV2 := hd v2
  have HB := hd hb0
  have HW := hd hW
  have HN := hd hn
  have HR := hd hr
  have HL := hd h
  have HM := hd hm
  clear v1 v2 hb0 hW hn hr h hm
  go_enter Try.func5, Try.ntmps5
  go_upto_region 1 with fail
  rw [HW.out]
  go_upto_region 5 with (first
    | (go_at_call 6; refine Calls.mono (live14_any _) ?_; rintro e w0 ⟨rfl, b9⟩; have HV1 := hd (HV1.out.keep b9); have HV2 := hd (HV2.out.keep b9); have HB := hd (step_b HB.out b9); clear b9)
    | ((with_reducible refine gd_load (ty := 26) (x := .tmp 4) ?_); refine wpList_load_row rowT_node HV1.out rfl _ rfl rfl rfl ?_)
    | (go_at_call 7; obtain ⟨dn, hdn⟩ := HN.out.later HB.out; refine Calls.mono (F1.out ▸ few_any dn _ _ _ _ (by unfold In64; omega) hdn) ?_; clear hdn; rintro e w1 ⟨rfl, b9⟩; have HV1 := hd (HV1.out.keep b9); have HV2 := hd (HV2.out.keep b9); have HB := hd (step_b HB.out b9); clear b9)
    | (go_at_call 8; have _g := F2; refine Calls.mono (fewrs_at (HL.out.later HB.out) HM.out h63 F2.out) ?_; clear F2; rintro e w2 ⟨rfl, b9⟩; have HV1 := hd (HV1.out.keep b9); have HV2 := hd (HV2.out.keep b9); have HB := hd (step_b HB.out b9); clear b9)
    | ((with_reducible refine gd_loadg (ty := 34) (x := .tmp 7) ?_); refine wpList_load_rowg rowT_ref HV2.out rfl _ rfl (by rfl) rfl ?_)
    | ((with_reducible refine gd_buildg (ty := 27) (k := 1) ?_); refine wpList_build_refg (c := d) _ rfl (by rfl) rfl ?_; have HLR := hd (one_lr (HR.out.later HB.out)); have b9 := (ref_var w2 d).2; have HV1 := hd (HV1.out.keep b9); have HV2 := hd (HV2.out.keep b9); have HB := hd (step_b HB.out b9); clear b9)
    | (go_at_call 8; have _g := F3; refine Calls.mono (fewrs_at HLR.out rfl (by omega) F3.out) ?_; clear F3; rintro e w3 ⟨rfl, b9⟩; have HV1 := hd (HV1.out.keep b9); have HV2 := hd (HV2.out.keep b9); have HB := hd (step_b HB.out b9); clear b9))
  clear HLR
  obtain ⟨wo, hwo⟩ : ∃ wo, wo = w3 := ⟨_, rfl⟩
  subst hwo
  have HBo := HB
  have HX1 := HV1
  have HX2 := HV2
  clear HB HV1 HV2
  go_wp2_with fail
  go_loopw [38] (fun i wr => ∃ k : Nat, k ≤ m ∧ i = .int .i64 k ∧ Hid (∀ (j : Nat) (a : RefP), j < k → us[j]? = some a → a.id ≠ id) ∧ Hid (Below wo.heap.size wo wr)) (fun i _ => m - (intOf i).toNat)
  case atStart => exact ⟨0, Nat.zero_le _, rfl, hd (fun j a hj => absurd hj (Nat.not_lt_zero _)), hd (Below.refl _ _)⟩
  case round =>
    obtain ⟨k, hk1, rfl, HA, HBr⟩ := hrel
    have HB := hd (step_b HBo.out HBr.out)
    by_cases hlt : k < m
    · obtain ⟨b, o, cx, a, rfl, hb, hc, ha, hok, hrg⟩ := (HL.out.later HB.out).at_ (k := k) (by rw [HM.out]; exact hlt)
      have HRG := hd hrg
      have HAk := hd ha
      have HI := hd hok.hid
      clear hb hc ha hok hrg
      by_cases hi : a.id = id
      · have e1 : (cx.id == id) = true := by rw [← HI.out]; simpa using hi
        clear hi HA
        go_wp2_with (first
          | ((with_reducible refine gd_load (ty := 34) (x := .tmp 40) ?_); refine wpList_load_ref HRG.out _ rfl rfl rfl ?_)
          | ((with_reducible refine gd_store (ty := 34) (x := .tmp 10) ?_); refine wpList_store_ref (c := cx) _ _ rfl rfl rfl rfl rfl rfl rfl ?_; have hv9 := (ref_var wr cx).1; have HB := hd (step_b HB.out (ref_var wr cx).2); obtain ⟨⟨u0, _⟩, _⟩ := hv9.eleven; clear hv9))
        go_ret
        exact ⟨rfl, HB.out⟩
      · have HA2 := hd (firstR_step HA.out HAk.out hi)
        have e1 : (cx.id == id) = false := by rw [← HI.out]; simpa using hi
        clear hi HA
        go_wp2_with (first
          | ((with_reducible refine gd_load (ty := 34) (x := .tmp 40) ?_); refine wpList_load_ref HRG.out _ rfl rfl rfl ?_)
          | ((with_reducible refine gd_store (ty := 34) (x := .tmp 10) ?_); refine wpList_store_ref (c := cx) _ _ rfl rfl rfl rfl rfl rfl rfl ?_; have hv9 := (ref_var wr cx).1; have HBr := hd (step_b HBr.out (ref_var wr cx).2); obtain ⟨⟨u0, _⟩, _⟩ := hv9.eleven; clear hv9))
        go_roundw
        case rel => exact ⟨k + 1, by omega, by go_num, HA2, HBr⟩
        case measure => simp [intOf]; omega
    · have HNO := hd (show ∀ s ∈ us, s.id ≠ id from fun s hs => by
        obtain ⟨j, hj⟩ := List.getElem?_of_mem hs
        exact HA.out j s (by have := (List.getElem?_eq_some_iff.1 hj).1; rw [HM.out] at this; omega) hj)
      have HV1 := hd (HX1.out.keep HBr.out)
      have HV2 := hd (HX2.out.keep HBr.out)
      clear HA hk1 HX1 HX2 HBr
      obtain ⟨⟨ar, ae⟩, ha⟩ : ∃ x, addR n us id r = x := ⟨_, rfl⟩
      have HAD := hd ha
      by_cases hae : ae = 0
      · subst hae
        have har : ar = us ++ [withR id r] ∧ us.length < 256 := by
          unfold addR at ha
          split at ha
          · rename_i h9
            exact absurd (congrArg Prod.snd ha) h9
          · split at ha
            · exact absurd (show (2 : Int) = 0 from congrArg Prod.snd ha) (by decide)
            · exact ⟨(congrArg Prod.fst ha).symm, by omega⟩
        have HAR := hd har.1
        have hl256 : m < 256 := HM.out ▸ har.2
        have HTA := hd (show ∀ x ∈ ar, fewR x = true by have := few_addR (n := n) (id := id) HTU.out HRF.out; rw [ha] at this; exact this)
        have HG1 := hd (show getR id ar = (withR id r, 0) from HAR.out ▸ get_added r HNO.out)
        have HG2 := hd (show freeR id ar = (us, 0) from HAR.out ▸ free_added r HNO.out)
        have HG3 := hd (show getR id us = (zeroR, 14) from getR_no fun j s hs => HNO.out s (List.mem_of_getElem? hs))
        have hal : ar.length ≤ 300 := by rw [HAR.out]; simp; rw [HM.out]; omega
        have HWF := hd (show fewR (withR id r) = true from HRF.out)
        clear ha har
        go_upto_region 17 with (first
          | ((with_reducible refine gd_load (ty := 26) (x := .tmp 4) ?_); refine wpList_load_row rowT_node HV1.out rfl _ rfl rfl rfl ?_)
          | ((with_reducible refine gd_load (ty := 34) (x := .tmp 7) ?_); refine wpList_load_row rowT_ref HV2.out rfl _ rfl rfl rfl ?_)
          | (go_at_call 9; refine Calls.mono (HAD.out ▸ hadd_r (HN.out.later HB.out) (HL.out.later HB.out) HM.out h300 hcap HTU.out (HR.out.later HB.out) HRF.out) ?_; rintro e w5 ⟨A3, n3, c3, cs3, rfl, k0, k3, k2, b9⟩; have HL3 := hd k2; have HN3 := hd (show ar.length = n3 from k0); have hc3 := k3; have HV2 := hd (HV2.out.keep b9); have HB := hd (step_b HB.out b9); clear b9 k0 k2 k3; dsimp only)
          | (go_at_call 14; have _g := HG1; refine Calls.mono (HG1.out ▸ hget_r HL3.out HN3.out (by have := HN3.out; omega) hc3 HTA.out) ?_; clear HG1; rintro e w6 ⟨c13, rfl, k1, b9⟩; have HC1 := hd k1; have HL3 := hd (HL3.out.later b9); have HV2 := hd (HV2.out.keep b9); have HB := hd (step_b HB.out b9); clear b9 k1; dsimp only)
          | ((with_reducible refine gd_store (ty := 34) (x := .tmp 13) ?_); refine wpList_store_ref (c := c13) _ _ rfl rfl rfl rfl rfl rfl rfl ?_; have HV13 := hd (ref_var w6 c13).1; have b9 := (ref_var w6 c13).2; have HC1 := hd (HC1.out.later b9); have HL3 := hd (HL3.out.later b9); have HV2 := hd (HV2.out.keep b9); have HB := hd (step_b HB.out b9); clear b9)
          | (go_at_call 16; refine Calls.mono (HG2.out ▸ hfree_r HL3.out HN3.out (by have := HN3.out; omega) hc3 HTA.out) ?_; rintro e w7 ⟨A5, n5, c5, cs5, rfl, k0, k3, k2, b9⟩; have HL5 := hd k2; have HN5 := hd (show us.length = n5 from k0); have hc5 := k3; have HC1 := hd (HC1.out.later b9); have HV13 := hd (HV13.out.keep b9); have HV2 := hd (HV2.out.keep b9); have HB := hd (step_b HB.out b9); clear b9 k0 k2 k3; dsimp only)
          | (go_at_call 14; have _g := HG3; refine Calls.mono (HG3.out ▸ hget_r HL5.out HN5.out (by have := HN5.out; have := HM.out; omega) hc5 HTU.out) ?_; clear HG3; rintro e w8 ⟨c17, rfl, k1, b9⟩; have HL5 := hd (HL5.out.later b9); have HC1 := hd (HC1.out.later b9); have HV13 := hd (HV13.out.keep b9); have HV2 := hd (HV2.out.keep b9); have HB := hd (step_b HB.out b9); clear b9 k1; dsimp only)
          | ((with_reducible refine gd_store (ty := 34) (x := .tmp 17) ?_); refine wpList_store_ref (c := c17) _ _ rfl rfl rfl rfl rfl rfl rfl ?_; have b9 := (ref_var w8 c17).2; have hX9 : w8.alloc (.cells c17.row 34) = w8.alloc (.cells c17.row 34) := rfl; have HC1 := hd (HC1.out.later b9); have HL5 := hd (HL5.out.later b9); have HV13 := hd (HV13.out.keep b9); have HV2 := hd (HV2.out.keep b9); have HB := hd (step_b HB.out b9); clear b9 hX9))
        obtain ⟨w9, hw9⟩ : ∃ x, w8.alloc (.cells c17.row 34) = x := ⟨_, rfl⟩
        rw [hw9] at HC1 HL5 HV13 HV2 HB ⊢
        clear hw9 HV1
        have HLW := hd (HL.out.later HB.out)
        have HRW := hd ((HR.out.later HB.out).with_ id)
        have HBN := hd (Below.refl w9.heap.size w9)
        go_wp2_with (first
          | ((with_reducible refine gd_load (ty := 34) (x := .tmp 7) ?_); refine wpList_load_row rowT_ref HV2.out rfl _ rfl rfl rfl ?_)
          | ((with_reducible refine gd_store (ty := 34) (x := .tmp 19) ?_); refine wpList_store_ref (c := d) _ _ rfl rfl rfl rfl rfl rfl rfl ?_; have HV19 := hd (ref_var w9 d).1; have HBN := hd (show Below w9.heap.size w9 _ from (ref_var w9 d).2))
          | ((with_reducible refine gd_store (ty := 3) (x := .tmp 80) ?_); refine wpList_store_cell sz_int HV19.out _ _ rfl rfl rfl 0 (.int .i64 id) rfl rfl rfl rfl (show 0 < 11 by omega) ?_; intro W9 hv9 ho9; have HBN := hd (off_below HBN.out ho9 (Nat.le_refl _)); have HV19 := hd (show VarR 34 W9 w9.heap.size ({ d with id := id } : RC).row from hv9); clear hv9 ho9)
          | ((with_reducible refine gd_store (ty := 4) (x := .tmp 81) ?_); refine wpList_store_cell lsz_bool HV19.out _ _ rfl rfl rfl 3 (.bool true) rfl rfl rfl rfl (show 3 < 11 by omega) ?_; intro W9 hv9 ho9; have HBN := hd (off_below HBN.out ho9 (Nat.le_refl _)); have HV19 := hd (show VarR 34 W9 w9.heap.size ({ d with id := id, live := true } : RC).row from hv9); clear hv9 ho9)
          | ((with_reducible refine gd_loadg (ty := 34) (x := .tmp 13) ?_); refine wpList_load_rowg rowT_ref (HV13.out.keep HBN.out) rfl _ rfl (by rfl) rfl ?_)
          | ((with_reducible refine gd_loadg (ty := 34) (x := .tmp 19) ?_); refine wpList_load_rowg rowT_ref HV19.out rfl _ rfl (by rfl) rfl ?_)
          | (go_at_call 18; refine Calls.mono (rsameref_at (HC1.out.later HBN.out) (HRW.out.later HBN.out) HWF.out HWF.out (samR_self (withR id r))) ?_; rintro e w10 ⟨rfl, b9⟩; have HBN := hd (step_b HBN.out b9); clear b9)
          | (go_at_call 11; refine Calls.mono (rsames_at (us := us) (vs := us) (HL5.out.later HBN.out) (HLW.out.later HBN.out) HN5.out HM.out (by have := HN5.out; have := HM.out; omega) (by omega) HTU.out HTU.out (samRs_self us)) ?_; rintro e w11 ⟨rfl, b9⟩; have HBN := hd (step_b HBN.out b9); clear b9))
        go_ret
        exact ⟨rfl, step_b HB.out HBN.out⟩
      · have har : ar = [] := by
          unfold addR at ha
          split at ha
          · exact (congrArg Prod.fst ha).symm
          · split at ha
            · exact (congrArg Prod.fst ha).symm
            · exact absurd (congrArg Prod.snd ha).symm hae
        subst har
        have e1 : (ae != 0) = true := by simpa using hae
        clear ha hae
        go_wp2_with (first
          | ((with_reducible refine gd_load (ty := 26) (x := .tmp 4) ?_); refine wpList_load_row rowT_node HV1.out rfl _ rfl rfl rfl ?_)
          | ((with_reducible refine gd_load (ty := 34) (x := .tmp 7) ?_); refine wpList_load_row rowT_ref HV2.out rfl _ rfl rfl rfl ?_)
          | (go_at_call 9; refine Calls.mono (HAD.out ▸ hadd_r (HN.out.later HB.out) (HL.out.later HB.out) HM.out h300 hcap HTU.out (HR.out.later HB.out) HRF.out) ?_; rintro e w5 ⟨A3, n3, c3, cs3, rfl, k0, k3, k2, b9⟩; have k0 : 0 = n3 := k0; subst k0; have HB := hd (step_b HB.out b9); clear b9 k2 k3; dsimp only))
        go_ret
        exact ⟨rfl, HB.out⟩

set_option maxRecDepth 4000 in
theorem hkeeps_law {w : World} {A : Option Addr} {cs : List RC} {us : List RefP} {m cap : Nat} {c : NC} {d : RC} {n : NT} {r : RefP} (hn : HasN w c n) (h : LR w A cs us) (hm : us.length = m) (hcap : m ≤ cap) (h63 : m ≤ 9223372036854775807) (id : Int) (hr : RkA w d r) : Calls Try.prog 5 #[.agg c.row, .slice A m cap, .int .i64 id, .agg d.row] w (AllTrue w) := by
  cases f1 : fewB 100 n
  · exact hkeeps_0 hn h hm h63 hr f1
  cases f2 : fewRs us
  · exact hkeeps_1 hn h hm h63 hr f1 f2
  cases f3 : fewRs [r]
  · exact hkeeps_2 hn h hm h63 hr f1 f2 f3
  exact hkeeps_3 hn h hm hcap hr f1 f2 f3

end Go.Proofs.Ytmglnjmnabjjgaa
