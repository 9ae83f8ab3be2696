/- Add: the program's. HoldAdds answers true. HoldAdds answers true: where all is done. -/
import Derived.Test.YtmglnjmnabjjgaaJLChkWWA
import Derived.Test.YtmglnjmnabjjgaaJLFree
import Derived.Test.YtmglnjmnabjjgaaJLFrW
import Derived.Test.YtmglnjmnabjjgaaJLOpen
import Derived.Test.YtmglnjmnabjjgaaJKSelWA
import Derived.Laws.ResultCell
import Derived.Test.YtmglnjmnabjjgaaJKCmp
import Derived.Test.YtmglnjmnabjjgaaJTGetAWA
import Derived.IntWalk
import Derived.Test.YtmglnjmnabjjgaaJXMove5
import Derived.StillTailTactics
import Derived.Lib.AppendZeros
import Derived.Test.YtmglnjmnabjjgaaJLStepH
import Derived.Test.YtmglnjmnabjjgaaJGTextWA
import Derived.Test.YtmglnjmnabjjgaaJGText
import Derived.Test.YtmglnjmnabjjgaaXMove
import Derived.Test.YtmglnjmnabjjgaaJXCalls
import Derived.Laws.Strings
import Derived.Laws.AppendOwnNone
import Derived.Lib.SliceRun
import Derived.Deep.Cut
import Derived.Deep.RegionHeld3
import Derived.Deep.RegionLaw
import Derived.BigRegion
import Derived.Maps.OwnOps
import Derived.Test.YtmglnjmnabjjgaaLAddWA
namespace Go.Proofs.Ytmglnjmnabjjgaa
open Go.RowKit

theorem hgd_build {P : Program} {ops : Array Oper} {Q : Exit → Act → World → Prop} {dst : Option Nat} {ty : TypeId} {k : Nat} {ps : Array (Nat × Operand)} {t : TypeId} {pos : String} {af : Array Edge} {rest : List Oper} {a : Act} {w : World} (h : wpList P ops Q ({ dst := dst, op := .buildSlice ty k ps, type := t, pos := pos, after := af, guard := none } :: rest) a w) : wpList P ops Q ({ dst := dst, op := .buildSlice ty k ps, type := t, pos := pos, after := af, guard := none } :: rest) a w := h
set_option maxRecDepth 100000 in
set_option maxHeartbeats 8000000 in
theorem hadd_1 {w : World} {A : Option Addr} {us : List RefP} {m cap : Nat} {id : Int} {c : NC} {d : RC} {n : NT} {r : RefP} (hn : HasN w c n) (hr : RkA w d r) (hf : fewR r = true) (hE : (chkR n r != 0) = true) : Calls Try.prog 9 #[.agg c.row, .slice A m cap, .int .i64 id, .agg d.row] w (NewLE w (addR n us id r)) := by
  obtain ⟨W0, hW, hst⟩ := s2_vars hn hr
  have HW := hd hW
  have HS := hd hst
  have HF := hd hf
  clear hW hst hn hr hf
  have hX : addR n us id r = ([], chkR n r) := by rw [addR, if_pos (by simpa using hE)]
  obtain ⟨E, he⟩ : ∃ E, chkR n r = E := ⟨_, rfl⟩
  rw [he] at hE hX
  have HE := hd he
  have HX := hd hX
  clear he hX
  go_enter Try.func9, Try.ntmps9
  go_upto_region 1 with fail
  rw [HW.out]
  go_wp2_with (first
    | ((with_reducible refine gd_load (ty := 26) (x := .tmp 4) ?_); refine wpList_load_row rowT_node HS.out.v1 rfl _ rfl rfl rfl ?_)
    | ((with_reducible refine gd_load (ty := 34) (x := .tmp 7) ?_); refine wpList_load_row rowT_ref HS.out.v2 rfl _ rfl rfl rfl ?_)
    | (go_at_call 12; refine Calls.mono (hchk_r HS.out.hn HS.out.hr HF.out HE.out) ?_; rintro e w9 ⟨rfl, b9⟩; have HS := hd (HS.out.call b9); clear b9))
  go_ret2
  refine ⟨none, 0, 0, [], by rw [HX.out]; rfl, by rw [HX.out]; rfl, Nat.le_refl _, ?_, HS.out.below⟩
  rw [HX.out]
  exact LR.nil _ _
set_option maxRecDepth 100000 in
set_option maxHeartbeats 8000000 in
theorem hadd_2 {w : World} {A : Option Addr} {us : List RefP} {m cap : Nat} {id : Int} {c : NC} {d : RC} {n : NT} {r : RefP} (hn : HasN w c n) (hm : us.length = m) (hr : RkA w d r) (hf : fewR r = true) (hE : chkR n r = 0) (hl : 256 ≤ m) (h63 : m ≤ 300) : Calls Try.prog 9 #[.agg c.row, .slice A m cap, .int .i64 id, .agg d.row] w (NewLE w (addR n us id r)) := by
  obtain ⟨W0, hW, hst⟩ := s2_vars hn hr
  have HW := hd hW
  have HS := hd hst
  have HF := hd hf
  clear hW hst hn hr hf
  have HX := hd (show addR n us id r = ([], 2) by rw [addR, if_neg (by simp [hE]), if_pos (by omega)])
  have HE := hd hE
  clear hE hm
  go_enter Try.func9, Try.ntmps9
  go_upto_region 1 with fail
  rw [HW.out]
  go_wp2_with (first
    | ((with_reducible refine gd_load (ty := 26) (x := .tmp 4) ?_); refine wpList_load_row rowT_node HS.out.v1 rfl _ rfl rfl rfl ?_)
    | ((with_reducible refine gd_load (ty := 34) (x := .tmp 7) ?_); refine wpList_load_row rowT_ref HS.out.v2 rfl _ rfl rfl rfl ?_)
    | (go_at_call 12; refine Calls.mono (hchk_r HS.out.hn HS.out.hr HF.out HE.out) ?_; rintro e w9 ⟨rfl, b9⟩; have HS := hd (HS.out.call b9); clear b9))
  go_ret2
  refine ⟨none, 0, 0, [], by rw [HX.out]; rfl, by rw [HX.out]; rfl, Nat.le_refl _, ?_, HS.out.below⟩
  rw [HX.out]
  exact LR.nil _ _
set_option maxRecDepth 100000 in
set_option maxHeartbeats 8000000 in
theorem hadd_3 {w : World} {A : Option Addr} {cs : List RC} {us : List RefP} {m cap : Nat} {id : Int} {c : NC} {d : RC} {n : NT} {r : RefP} (hn : HasN w c n) (h : LR w A cs us) (hm : us.length = m) (_hcap : m ≤ cap) (tu : ∀ r ∈ us, fewR r = true) (hr : RkA w d r) (hf : fewR r = true) (hE : chkR n r = 0) (hl : m < 256) : Calls Try.prog 9 #[.agg c.row, .slice A m cap, .int .i64 id, .agg d.row] w (NewLE w (addR n us id r)) := by
  have hb0 := hr
  obtain ⟨W0, hW, hst⟩ := s2_vars hn hr
  have HW := hd hW
  have HS := hd hst
  have HF := hd hf
  clear hW hst hn hr hf
  have HX := hd (show addR n us id r = (us ++ [withR id r], 0) by rw [addR, if_neg (by simp [hE]), if_neg (by omega)])
  have HR := hd hb0
  have HE := hd hE
  have HL := hd h
  have HM := hd hm
  have HTR := hd (show ∀ x ∈ us ++ [withR id r], tinyR x from fun x hx => by
    rcases List.mem_append.1 hx with h1 | h1
    · exact tiny_few (tu _ h1)
    · simp at h1
      subst h1
      exact tiny_few (show fewR (withR id r) = true from HF.out))
  clear hE h hm hb0 tu
  go_enter Try.func9, Try.ntmps9
  go_upto_region 1 with fail
  rw [HW.out]
  go_upto_region 6 with (first
    | ((with_reducible refine gd_load (ty := 26) (x := .tmp 4) ?_); refine wpList_load_row rowT_node HS.out.v1 rfl _ rfl rfl rfl ?_)
    | ((with_reducible refine gd_load (ty := 34) (x := .tmp 7) ?_); refine wpList_load_row rowT_ref HS.out.v2 rfl _ rfl rfl rfl ?_)
    | (go_at_call 12; refine Calls.mono (hchk_r HS.out.hn HS.out.hr HF.out HE.out) ?_; rintro e w9 ⟨rfl, b9⟩; have HS := hd (HS.out.call b9); clear b9))
  have HB := hd HS.out.below
  have HV2 := hd HS.out.v2
  clear HS
  go_upto_region 7 with (first
    | ((with_reducible refine gd_store (ty := 3) (x := .tmp 21) ?_); refine wpList_store_cell sz_int HV2.out _ _ rfl rfl rfl 0 (.int .i64 id) rfl rfl rfl rfl (show 0 < 11 by omega) ?_; intro W9 hv9 ho9; have HB := hd (off_step HB.out ho9 (by omega)); have HV2 := hd (show VarR 34 W9 (w.heap.size + 1) ({ d with id := id } : RC).row from hv9); clear hv9 ho9)
    | ((with_reducible refine gd_store (ty := 4) (x := .tmp 22) ?_); refine wpList_store_cell lsz_bool HV2.out _ _ rfl rfl rfl 3 (.bool true) rfl rfl rfl rfl (show 3 < 11 by omega) ?_; intro W8 hv9 ho9; have HB := hd (off_step HB.out ho9 (by omega)); have HV2 := hd (show VarR 34 W8 (w.heap.size + 1) ({ d with id := id, live := true } : RC).row from hv9); clear hv9 ho9))
  obtain ⟨d', hd'⟩ : ∃ d' : RC, { d with id := id, live := true } = d' := ⟨_, rfl⟩
  have HO := hd (show RkA w d' (withR id r) from hd' ▸ HR.out.with_ id)
  rw [hd'] at HV2
  clear hd' HR
  have HL := hd (HL.out.later HB.out)
  have HO := hd (HO.out.later HB.out)
  go_wp2_with (first
    | ((with_reducible refine gd_load (ty := 34) (x := .tmp 7) ?_); refine wpList_load_row rowT_ref HV2.out rfl _ rfl rfl rfl ?_)
    | ((with_reducible refine hgd_build (ty := 27) (k := 1) ?_); refine wpList_build_ref (c := d') _ rfl rfl rfl ?_; have HLO := hd (one_lr HO.out); have b9 := (ref_var W8 d').2; have HL := hd (HL.out.later b9); have HO := hd (HO.out.later b9); have HB := hd (step_b HB.out b9); clear b9; generalize hW1 : W8.alloc (.cells d'.row 34) = W1; rw [hW1] at HLO HL HO HB; clear hW1)
    | (go_at_call 23; have b9 := (Below.refl W1.heap.size W1).alloc (Nat.le_refl _) (.cells #[.slice A m cap, .slice (some ⟨W8.heap.size, 0, none⟩) 1 1] 27); have HL := hd (HL.out.later b9); have HLO := hd (HLO.out.later b9); have HB := hd (step_b HB.out b9); clear b9; refine Calls.mono (hconcat_any (n := m) (m := 1) (c := cap) (d := 1) (cs := cs) (ds := [d']) (by rw [HL.out.hl, HM.out]) rfl (by omega) (by omega) (by simp) (by rw [World.cell?_alloc_at _ _ _ _ rfl]; rfl) (by rw [World.cell?_alloc_at _ _ _ _ rfl]; rfl) HL.out.hv HLO.out.hv) ?_; rintro e w2 hnr; obtain ⟨A2, c2, rfl, hlr, b9⟩ := hnr.lr (HL.out.rk.app HLO.out.rk); have HLR := hd hlr; have HB := hd (step_b HB.out b9); clear hnr hlr b9)
    | (go_at_call 22; refine (hfresh_any HLR.out (by rw [List.length_append, HM.out]; rfl) (by omega) HTR.out).mono ?_; rintro e w3 hnf; obtain ⟨A3, n3, c3, ds, rfl, hn3, hc3, hlr3, b9⟩ := hnf.lr; have HB := hd (step_b HB.out b9); have HL3 := hd hlr3; have HN3 := hd hn3; clear hnf b9 hlr3 hn3))
  go_ret2
  refine ⟨A3, n3, c3, ds, by rw [HX.out]; rfl, by rw [HX.out]; exact HN3.out, hc3, ?_, HB.out⟩
  rw [HX.out]
  exact HL3.out
set_option maxRecDepth 4000 in
theorem hadd_r {w : World} {A : Option Addr} {cs : List RC} {us : List RefP} {m cap : Nat} {id : Int} {c : NC} {d : RC} {n : NT} {r : RefP} (hn : HasN w c n) (h : LR w A cs us) (hm : us.length = m) (h63 : m ≤ 300) (hcap : m ≤ cap) (tu : ∀ r ∈ us, fewR r = true) (hr : RkA w d r) (hf : fewR r = true) : Calls Try.prog 9 #[.agg c.row, .slice A m cap, .int .i64 id, .agg d.row] w (NewLE w (addR n us id r)) := by
  cases he : (chkR n r != 0)
  · have he : chkR n r = 0 := by simpa using he
    rcases Nat.lt_or_ge m 256 with h1 | h1
    · exact hadd_3 hn h hm hcap tu hr hf he h1
    · exact hadd_2 hn hm hr hf he h1 h63
  · exact hadd_1 hn hr hf he

end Go.Proofs.Ytmglnjmnabjjgaa

namespace Go.Proofs.Ytmglnjmnabjjgaa
open Go.RowKit

theorem few_addR {n : NT} {l : List RefP} {id : Int} {r : RefP} (h : ∀ x ∈ l, fewR x = true) (hr : fewR r = true) : ∀ x ∈ (addR n l id r).1, fewR x = true := by
  unfold addR
  split
  · simp
  · split
    · simp
    · intro x hx
      rcases List.mem_append.1 hx with h1 | h1
      · exact h x h1
      · simp at h1
        subst h1
        exact hr
set_option maxRecDepth 4000 in
theorem add_len {n : NT} {l : List RefP} {id : Int} {r : RefP} : (addR n l id r).1.length ≤ l.length + 1 := by
  unfold addR
  split
  · simp
  · split <;> simp
set_option maxRecDepth 100000 in
set_option maxHeartbeats 8000000 in
theorem hadds_0 {w : World} {A : Option Addr} {cs : List RC} {us : List RefP} {m cap : Nat} {id : Int} {c : NC} {d : RC} {n : NT} {r : RefP} (hn : HasN w c n) (h : LR w A cs us) (hm : us.length = m) (_h63 : m ≤ 9223372036854775807) (hr : RkA w d r) (f1 : fewB 120 n = false) : Calls Try.prog 3 #[.agg c.row, .slice A m cap, .int .i64 id, .agg d.row] w (AllTrue w) := by
  have F1 := hd f1
  clear f1
  obtain ⟨W0, hW, hb0, v1, v2⟩ := lvars2 w 26 34 c.row d.row
  have HV1 := hd v1
  have HV2 := hd v2
  have HB := hd hb0
  have HW := hd hW
  have HN := hd hn
  have HR := hd hr
  have HL := hd h
  have HM := hd hm
  clear v1 v2 hb0 hW hn hr h hm
  go_enter Try.func3, Try.ntmps3
  go_upto_region 1 with fail
  rw [HW.out]
  go_wp2_with (first
    | (go_at_call 6; refine Calls.mono (live14_any _) ?_; rintro e w0 ⟨rfl, b9⟩; have HV1 := hd (HV1.out.keep b9); have HV2 := hd (HV2.out.keep b9); have HB := hd (step_b HB.out b9); clear b9)
    | ((with_reducible refine gd_load (ty := 26) (x := .tmp 4) ?_); refine wpList_load_row rowT_node HV1.out rfl _ rfl rfl rfl ?_)
    | (go_at_call 7; obtain ⟨dn, hdn⟩ := HN.out.later HB.out; refine Calls.mono (F1.out ▸ few_any dn _ _ _ _ (by unfold In64; omega) hdn) ?_; clear hdn; rintro e w1 ⟨rfl, b9⟩; have HV1 := hd (HV1.out.keep b9); have HV2 := hd (HV2.out.keep b9); have HB := hd (step_b HB.out b9); clear b9)
    | (go_at_call 8; have _g := F2; refine Calls.mono (fewrs_at (HL.out.later HB.out) HM.out h63 F2.out) ?_; clear F2; rintro e w2 ⟨rfl, b9⟩; have HV1 := hd (HV1.out.keep b9); have HV2 := hd (HV2.out.keep b9); have HB := hd (step_b HB.out b9); clear b9)
    | ((with_reducible refine gd_loadg (ty := 34) (x := .tmp 7) ?_); refine wpList_load_rowg rowT_ref HV2.out rfl _ rfl (by rfl) rfl ?_)
    | ((with_reducible refine gd_buildg (ty := 27) (k := 1) ?_); refine wpList_build_refg (c := d) _ rfl (by rfl) rfl ?_; have HLR := hd (one_lr (HR.out.later HB.out)); have b9 := (ref_var w2 d).2; have HV1 := hd (HV1.out.keep b9); have HV2 := hd (HV2.out.keep b9); have HB := hd (step_b HB.out b9); clear b9)
    | (go_at_call 8; have _g := F3; refine Calls.mono (fewrs_at HLR.out rfl (by omega) F3.out) ?_; clear F3; rintro e w3 ⟨rfl, b9⟩; have HV1 := hd (HV1.out.keep b9); have HV2 := hd (HV2.out.keep b9); have HB := hd (step_b HB.out b9); clear b9))
  go_ret
  exact ⟨rfl, HB.out⟩
set_option maxRecDepth 100000 in
set_option maxHeartbeats 8000000 in
theorem hadds_1 {w : World} {A : Option Addr} {cs : List RC} {us : List RefP} {m cap : Nat} {id : Int} {c : NC} {d : RC} {n : NT} {r : RefP} (hn : HasN w c n) (h : LR w A cs us) (hm : us.length = m) (h63 : m ≤ 9223372036854775807) (hr : RkA w d r) (f1 : fewB 120 n = true) (f2 : fewRs us = false) : Calls Try.prog 3 #[.agg c.row, .slice A m cap, .int .i64 id, .agg d.row] w (AllTrue w) := by
  have F1 := hd f1
  have F2 := hd f2
  clear f1 f2
  obtain ⟨W0, hW, hb0, v1, v2⟩ := lvars2 w 26 34 c.row d.row
  have HV1 := hd v1
  have HV2 := hd v2
  have HB := hd hb0
  have HW := hd hW
  have HN := hd hn
  have HR := hd hr
  have HL := hd h
  have HM := hd hm
  clear v1 v2 hb0 hW hn hr h hm
  go_enter Try.func3, Try.ntmps3
  go_upto_region 1 with fail
  rw [HW.out]
  go_wp2_with (first
    | (go_at_call 6; refine Calls.mono (live14_any _) ?_; rintro e w0 ⟨rfl, b9⟩; have HV1 := hd (HV1.out.keep b9); have HV2 := hd (HV2.out.keep b9); have HB := hd (step_b HB.out b9); clear b9)
    | ((with_reducible refine gd_load (ty := 26) (x := .tmp 4) ?_); refine wpList_load_row rowT_node HV1.out rfl _ rfl rfl rfl ?_)
    | (go_at_call 7; obtain ⟨dn, hdn⟩ := HN.out.later HB.out; refine Calls.mono (F1.out ▸ few_any dn _ _ _ _ (by unfold In64; omega) hdn) ?_; clear hdn; rintro e w1 ⟨rfl, b9⟩; have HV1 := hd (HV1.out.keep b9); have HV2 := hd (HV2.out.keep b9); have HB := hd (step_b HB.out b9); clear b9)
    | (go_at_call 8; have _g := F2; refine Calls.mono (fewrs_at (HL.out.later HB.out) HM.out h63 F2.out) ?_; clear F2; rintro e w2 ⟨rfl, b9⟩; have HV1 := hd (HV1.out.keep b9); have HV2 := hd (HV2.out.keep b9); have HB := hd (step_b HB.out b9); clear b9)
    | ((with_reducible refine gd_loadg (ty := 34) (x := .tmp 7) ?_); refine wpList_load_rowg rowT_ref HV2.out rfl _ rfl (by rfl) rfl ?_)
    | ((with_reducible refine gd_buildg (ty := 27) (k := 1) ?_); refine wpList_build_refg (c := d) _ rfl (by rfl) rfl ?_; have HLR := hd (one_lr (HR.out.later HB.out)); have b9 := (ref_var w2 d).2; have HV1 := hd (HV1.out.keep b9); have HV2 := hd (HV2.out.keep b9); have HB := hd (step_b HB.out b9); clear b9)
    | (go_at_call 8; have _g := F3; refine Calls.mono (fewrs_at HLR.out rfl (by omega) F3.out) ?_; clear F3; rintro e w3 ⟨rfl, b9⟩; have HV1 := hd (HV1.out.keep b9); have HV2 := hd (HV2.out.keep b9); have HB := hd (step_b HB.out b9); clear b9))
  go_ret
  exact ⟨rfl, HB.out⟩
set_option maxRecDepth 100000 in
set_option maxHeartbeats 8000000 in
theorem hadds_2 {w : World} {A : Option Addr} {cs : List RC} {us : List RefP} {m cap : Nat} {id : Int} {c : NC} {d : RC} {n : NT} {r : RefP} (hn : HasN w c n) (h : LR w A cs us) (hm : us.length = m) (h63 : m ≤ 9223372036854775807) (hr : RkA w d r) (f1 : fewB 120 n = true) (f2 : fewRs us = true) (f3 : fewRs [r] = false) : Calls Try.prog 3 #[.agg c.row, .slice A m cap, .int .i64 id, .agg d.row] w (AllTrue w) := by
  have F1 := hd f1
  have F2 := hd f2
  have F3 := hd f3
  clear f1 f2 f3
  obtain ⟨W0, hW, hb0, v1, v2⟩ := lvars2 w 26 34 c.row d.row
  have HV1 := hd v1
  have HV2 := hd v2
  have HB := hd hb0
  have HW := hd hW
  have HN := hd hn
  have HR := hd hr
  have HL := hd h
  have HM := hd hm
  clear v1 v2 hb0 hW hn hr h hm
  go_enter Try.func3, Try.ntmps3
  go_upto_region 1 with fail
  rw [HW.out]
  go_wp2_with (first
    | (go_at_call 6; refine Calls.mono (live14_any _) ?_; rintro e w0 ⟨rfl, b9⟩; have HV1 := hd (HV1.out.keep b9); have HV2 := hd (HV2.out.keep b9); have HB := hd (step_b HB.out b9); clear b9)
    | ((with_reducible refine gd_load (ty := 26) (x := .tmp 4) ?_); refine wpList_load_row rowT_node HV1.out rfl _ rfl rfl rfl ?_)
    | (go_at_call 7; obtain ⟨dn, hdn⟩ := HN.out.later HB.out; refine Calls.mono (F1.out ▸ few_any dn _ _ _ _ (by unfold In64; omega) hdn) ?_; clear hdn; rintro e w1 ⟨rfl, b9⟩; have HV1 := hd (HV1.out.keep b9); have HV2 := hd (HV2.out.keep b9); have HB := hd (step_b HB.out b9); clear b9)
    | (go_at_call 8; have _g := F2; refine Calls.mono (fewrs_at (HL.out.later HB.out) HM.out h63 F2.out) ?_; clear F2; rintro e w2 ⟨rfl, b9⟩; have HV1 := hd (HV1.out.keep b9); have HV2 := hd (HV2.out.keep b9); have HB := hd (step_b HB.out b9); clear b9)
    | ((with_reducible refine gd_loadg (ty := 34) (x := .tmp 7) ?_); refine wpList_load_rowg rowT_ref HV2.out rfl _ rfl (by rfl) rfl ?_)
    | ((with_reducible refine gd_buildg (ty := 27) (k := 1) ?_); refine wpList_build_refg (c := d) _ rfl (by rfl) rfl ?_; have HLR := hd (one_lr (HR.out.later HB.out)); have b9 := (ref_var w2 d).2; have HV1 := hd (HV1.out.keep b9); have HV2 := hd (HV2.out.keep b9); have HB := hd (step_b HB.out b9); clear b9)
    | (go_at_call 8; have _g := F3; refine Calls.mono (fewrs_at HLR.out rfl (by omega) F3.out) ?_; clear F3; rintro e w3 ⟨rfl, b9⟩; have HV1 := hd (HV1.out.keep b9); have HV2 := hd (HV2.out.keep b9); have HB := hd (step_b HB.out b9); clear b9))
  go_ret
  exact ⟨rfl, HB.out⟩

end Go.Proofs.Ytmglnjmnabjjgaa

namespace Go.Proofs.Ytmglnjmnabjjgaa
open Go.RowKit

theorem lgd_app {P : Program} {ops : Array Oper} {Q : Exit → Act → World → Prop} {dst : Option Nat} {xs : Array Operand} {ts : Array TypeId} {t : TypeId} {pos : String} {af : Array Edge} {rest : List Oper} {a : Act} {w : World} (h : wpList P ops Q ({ dst := dst, op := .call { callee := .builtin .append, args := xs, argTypes := ts }, type := t, pos := pos, after := af, guard := none } :: rest) a w) : wpList P ops Q ({ dst := dst, op := .call { callee := .builtin .append, args := xs, argTypes := ts }, type := t, pos := pos, after := af, guard := none } :: rest) a w := h
set_option maxRecDepth 100000 in
set_option maxHeartbeats 16000000 in
theorem hadds_3 {w : World} {A : Option Addr} {cs : List RC} {us : List RefP} {m cap : Nat} {id : Int} {c : NC} {d : RC} {n : NT} {r : RefP} (hn : HasN w c n) (h : LR w A cs us) (hm : us.length = m) (hcap : m ≤ cap) (hr : RkA w d r) (f1 : fewB 120 n = true) (f2 : fewRs us = true) (f3 : fewRs [r] = true) : Calls Try.prog 3 #[.agg c.row, .slice A m cap, .int .i64 id, .agg d.row] w (AllTrue w) := by
  have F1 := hd f1
  have F2 := hd f2
  have F3 := hd f3
  have h300 : m ≤ 300 := hm ▸ fewRs_len f2
  have h63 : m ≤ 9223372036854775807 := by omega
  have HTU := hd (fun x hx => fewRs_all f2 (r := x) hx)
  have HRF := hd (fewRs_all f3 (r := r) (by simp))
  obtain ⟨⟨ar, ae⟩, ha⟩ : ∃ x, addR n us id r = x := ⟨_, rfl⟩
  obtain ⟨E, he⟩ : ∃ E, chkR n r = E := ⟨_, rfl⟩
  have HAD := hd ha
  have HE := hd he
  have HAF := hd (show ∀ x ∈ ar, fewR x = true by have := few_addR (n := n) (id := id) HTU.out HRF.out; rw [ha] at this; exact this)
  have hal : ar.length ≤ 301 := by have := add_len (n := n) (l := us) (id := id) (r := r); rw [ha] at this; simp only at this; omega
  have hee : (E == E) = true := by simp
  have haa : (ae == ae) = true := by simp
  clear f1 f2 f3 ha he
  obtain ⟨W0, hW, hb0, v1, v2⟩ := lvars2 w 26 34 c.row d.row
  have HV1 := hd v1
  have HV2 := hd v2
  have HB := hd hb0
  have HW := hd hW
  have HN := hd hn
  have HR := hd hr
  have HL := hd h
  have HM := hd hm
  clear v1 v2 hb0 hW hn hr h hm
  go_enter Try.func3, Try.ntmps3
  go_upto_region 1 with fail
  rw [HW.out]
  go_upto_region 5 with (first
    | (go_at_call 6; refine Calls.mono (live14_any _) ?_; rintro e w0 ⟨rfl, b9⟩; have HV1 := hd (HV1.out.keep b9); have HV2 := hd (HV2.out.keep b9); have HB := hd (step_b HB.out b9); clear b9)
    | ((with_reducible refine gd_load (ty := 26) (x := .tmp 4) ?_); refine wpList_load_row rowT_node HV1.out rfl _ rfl rfl rfl ?_)
    | (go_at_call 7; obtain ⟨dn, hdn⟩ := HN.out.later HB.out; refine Calls.mono (F1.out ▸ few_any dn _ _ _ _ (by unfold In64; omega) hdn) ?_; clear hdn; rintro e w1 ⟨rfl, b9⟩; have HV1 := hd (HV1.out.keep b9); have HV2 := hd (HV2.out.keep b9); have HB := hd (step_b HB.out b9); clear b9)
    | (go_at_call 8; have _g := F2; refine Calls.mono (fewrs_at (HL.out.later HB.out) HM.out h63 F2.out) ?_; clear F2; rintro e w2 ⟨rfl, b9⟩; have HV1 := hd (HV1.out.keep b9); have HV2 := hd (HV2.out.keep b9); have HB := hd (step_b HB.out b9); clear b9)
    | ((with_reducible refine gd_loadg (ty := 34) (x := .tmp 7) ?_); refine wpList_load_rowg rowT_ref HV2.out rfl _ rfl (by rfl) rfl ?_)
    | ((with_reducible refine gd_buildg (ty := 27) (k := 1) ?_); refine wpList_build_refg (c := d) _ rfl (by rfl) rfl ?_; have HLR := hd (one_lr (HR.out.later HB.out)); have b9 := (ref_var w2 d).2; have HV1 := hd (HV1.out.keep b9); have HV2 := hd (HV2.out.keep b9); have HB := hd (step_b HB.out b9); clear b9)
    | (go_at_call 8; have _g := F3; refine Calls.mono (fewrs_at HLR.out rfl (by omega) F3.out) ?_; clear F3; rintro e w3 ⟨rfl, b9⟩; have HV1 := hd (HV1.out.keep b9); have HV2 := hd (HV2.out.keep b9); have HB := hd (step_b HB.out b9); clear b9))
  clear HLR
  go_upto_region 8 with (first
    | ((with_reducible refine lgd_app (ts := #[27, 27]) ?_); refine wpList_append_G0 refG _ rfl _ _ rfl w3.heap.size rfl A m cap _ (cellsR cs) rfl (by rw [cellsR_len, HL.out.hl, HM.out]) (HL.out.later HB.out).hv (cellsR_all _) (by unfold maxLen; omega) (by omega) (Nat.le_refl _) ?_; intro A9 c9 w4 o9 b9 at9; have HL9 := hd ((HL.out.later (step_b HB.out b9)).rk.lr (lrow_vl o9).2); have HV1 := hd (HV1.out.keep b9); have HV2 := hd (HV2.out.keep b9); have HB := hd (step_b HB.out b9); clear b9 o9 at9)
    | ((with_reducible refine gd_load (ty := 26) (x := .tmp 4) ?_); refine wpList_load_row rowT_node HV1.out rfl _ rfl rfl rfl ?_)
    | ((with_reducible refine gd_load (ty := 34) (x := .tmp 7) ?_); refine wpList_load_row rowT_ref HV2.out rfl _ rfl rfl rfl ?_)
    | (go_at_call 9; refine Calls.mono (HAD.out ▸ hadd_r (HN.out.later HB.out) (HL.out.later HB.out) HM.out h300 hcap HTU.out (HR.out.later HB.out) HRF.out) ?_; rintro e w5 ⟨A3, n3, c3, cs3, rfl, k0, k1, k2, b9⟩; have HL3 := hd k2; have HN3 := hd k0; have HL9 := hd (HL9.out.later b9); have HV1 := hd (HV1.out.keep b9); have HV2 := hd (HV2.out.keep b9); have HB := hd (step_b HB.out b9); clear b9 k0 k1 k2; dsimp only)
    | (go_at_call 10; refine Calls.mono (HAD.out ▸ radd_r (HN.out.later HB.out) (HL.out.later HB.out) HM.out h300 hcap (HR.out.later HB.out) HRF.out) ?_; rintro e w6 ⟨A4, n4, c4, cs4, rfl, k0, k1, k2, b9⟩; have HL4 := hd k2; have HN4 := hd k0; have HL3 := hd (HL3.out.later b9); have HL9 := hd (HL9.out.later b9); have HV1 := hd (HV1.out.keep b9); have HV2 := hd (HV2.out.keep b9); have HB := hd (step_b HB.out b9); clear b9 k0 k1 k2; dsimp only))
  refine Y_start (S := fun W' => Below w6.heap.size w6 W') (z := fun _ => false) (by kernel_rfl) ?_
  have HSS := hd (show Below w6.heap.size w6 w6.drew from (Below.refl _ _).drew)
  have HX1 := HV1
  have HX2 := HV2
  clear HV1 HV2
  refine Y_take (i := 0) (n := 22) (.slice A3 n3 c3) rfl (by kernel_rfl) (by kernel_rfl) (by kernel_rfl) (by kernel_rfl) (fun _ _ _ h => h) (by rfl) (fun W9 hW9 => ?_) HSS.out ?_
  · go_simp
  simp only [Act.put, List.setIfInBounds_toArray, List.set_cons_succ, List.set_cons_zero, List.getElem_toArray, List.getElem_cons_zero]
  refine Y_take (i := 1) (n := 21) (.slice A4 n4 c4) rfl (by kernel_rfl) (by kernel_rfl) (by kernel_rfl) (by kernel_rfl) (fun _ _ _ h => h) (by rfl) (fun W9 hW9 => ?_) HSS.out ?_
  · go_simp
  simp only [Act.put, List.setIfInBounds_toArray, List.set_cons_succ, List.set_cons_zero, List.getElem_toArray, List.getElem_cons_succ, List.getElem_cons_zero]
  refine Y_one (i := 2) (n := 20) (by kernel_rfl) rfl (fun K hK => ?_)
  rw [if_pos (by rfl)]
  go_simp
  go_at_call 11
  refine Calls.mono (rsames_at (us := ar) (vs := ar) (HL3.out.later HSS.out) (HL4.out.later HSS.out) HN3.out HN4.out (by have h1 : ar.length = n3 := HN3.out; omega) (by have h1 : ar.length = n4 := HN4.out; omega) HAF.out HAF.out (samRs_self ar)) ?_
  rintro e w9 ⟨rfl, b9⟩
  have HSS := hd (step_b HSS.out b9)
  clear b9
  refine hK _ _ (fun _ => HSS.out) ?_
  clear hK K
  refine Y_take (i := 3) (n := 19) (.bool true) rfl (by kernel_rfl) (by kernel_rfl) (by kernel_rfl) (by kernel_rfl) (fun _ _ _ h => h) (by rfl) (fun W9 hW9 => ?_) HSS.out ?_
  · go_simp
  simp only [Act.put, List.setIfInBounds_toArray, List.set_cons_succ, List.set_cons_zero, List.getElem_toArray, List.getElem_cons_succ, List.getElem_cons_zero]
  refine Y_take (i := 4) (n := 18) (.int .i64 ae) rfl (by kernel_rfl) (by kernel_rfl) (by kernel_rfl) (by kernel_rfl) (fun _ _ _ h => h) (by rfl) (fun W9 hW9 => ?_) HSS.out ?_
  · go_simp
  simp only [Act.put, List.setIfInBounds_toArray, List.set_cons_succ, List.set_cons_zero, List.getElem_toArray, List.getElem_cons_succ, List.getElem_cons_zero]
  refine Y_take (i := 5) (n := 17) (.int .i64 ae) rfl (by kernel_rfl) (by kernel_rfl) (by kernel_rfl) (by kernel_rfl) (fun _ _ _ h => h) (by rfl) (fun W9 hW9 => ?_) HSS.out ?_
  · go_simp
  simp only [Act.put, List.setIfInBounds_toArray, List.set_cons_succ, List.set_cons_zero, List.getElem_toArray, List.getElem_cons_succ, List.getElem_cons_zero]
  refine Y_take (i := 6) (n := 16) (.bool true) rfl (by kernel_rfl) (by kernel_rfl) (by kernel_rfl) (by kernel_rfl) (fun _ _ _ h => h) (by rfl) (fun W9 hW9 => ?_) HSS.out ?_
  · go_simp
  simp only [Act.put, List.setIfInBounds_toArray, List.set_cons_succ, List.set_cons_zero, List.getElem_toArray, List.getElem_cons_succ, List.getElem_cons_zero]
  refine Y_take (i := 7) (n := 15) (.bool true) rfl (by kernel_rfl) (by kernel_rfl) (by kernel_rfl) (by kernel_rfl) (fun _ _ _ h => h) (by rfl) (fun W9 hW9 => ?_) HSS.out ?_
  · go_simp
  simp only [Act.put, List.setIfInBounds_toArray, List.set_cons_succ, List.set_cons_zero, List.getElem_toArray, List.getElem_cons_succ, List.getElem_cons_zero]
  refine Y_take (i := 8) (n := 14) (.bool true) rfl (by kernel_rfl) (by kernel_rfl) (by kernel_rfl) (by kernel_rfl) (fun _ _ _ h => h) (by rfl) (fun W9 hW9 => ?_) HSS.out ?_
  · go_simp
  simp only [Act.put, List.setIfInBounds_toArray, List.set_cons_succ, List.set_cons_zero, List.getElem_toArray, List.getElem_cons_succ, List.getElem_cons_zero]
  refine Y_take (i := 9) (n := 13) (.agg c.row) rfl (by kernel_rfl) (by kernel_rfl) (by kernel_rfl) (by kernel_rfl) (fun _ _ _ h => h) (by rfl) (fun W9 hW9 => ?_) HSS.out ?_
  · exact exec_load_row rowT_node (HX1.out.keep hW9) rfl _ rfl rfl
  simp only [Act.put, List.setIfInBounds_toArray, List.set_cons_succ, List.set_cons_zero, List.getElem_toArray, List.getElem_cons_succ, List.getElem_cons_zero]
  refine Y_take (i := 10) (n := 12) (.agg d.row) rfl (by kernel_rfl) (by kernel_rfl) (by kernel_rfl) (by kernel_rfl) (fun _ _ _ h => h) (by rfl) (fun W9 hW9 => ?_) HSS.out ?_
  · exact exec_load_row rowT_ref (HX2.out.keep hW9) rfl _ rfl rfl
  simp only [Act.put, List.setIfInBounds_toArray, List.set_cons_succ, List.set_cons_zero, List.getElem_toArray, List.getElem_cons_succ, List.getElem_cons_zero]
  refine Y_take (i := 12) (n := 11) (.agg c.row) rfl (by kernel_rfl) (by kernel_rfl) (by kernel_rfl) (by kernel_rfl) (fun _ _ _ h => h) (by rfl) (fun W9 hW9 => ?_) HSS.out ?_
  · exact exec_load_row rowT_node (HX1.out.keep hW9) rfl _ rfl rfl
  simp only [Act.put, List.setIfInBounds_toArray, List.set_cons_succ, List.set_cons_zero, List.getElem_toArray, List.getElem_cons_succ, List.getElem_cons_zero]
  refine Y_take (i := 13) (n := 10) (.agg d.row) rfl (by kernel_rfl) (by kernel_rfl) (by kernel_rfl) (by kernel_rfl) (fun _ _ _ h => h) (by rfl) (fun W9 hW9 => ?_) HSS.out ?_
  · exact exec_load_row rowT_ref (HX2.out.keep hW9) rfl _ rfl rfl
  simp only [Act.put, List.setIfInBounds_toArray, List.set_cons_succ, List.set_cons_zero, List.getElem_toArray, List.getElem_cons_succ, List.getElem_cons_zero]
  refine Y_one (i := 11) (n := 9) (by kernel_rfl) rfl (fun K hK => ?_)
  rw [if_pos (by rfl)]
  go_simp
  go_at_call 12
  refine Calls.mono (hchk_r ((HN.out.later HB.out).later HSS.out) ((HR.out.later HB.out).later HSS.out) HRF.out HE.out) ?_
  rintro e w9 ⟨rfl, b9⟩
  have HSS := hd (step_b HSS.out b9)
  clear b9
  refine hK _ _ (fun _ => HSS.out) ?_
  clear hK K
  refine Y_one (i := 14) (n := 8) (by kernel_rfl) rfl (fun K hK => ?_)
  rw [if_pos (by rfl)]
  go_simp
  go_at_call 13
  refine Calls.mono (rchk_at ((HN.out.later HB.out).later HSS.out) ((HR.out.later HB.out).later HSS.out) HRF.out HE.out) ?_
  rintro e w9 ⟨rfl, b9⟩
  have HSS := hd (step_b HSS.out b9)
  clear b9
  refine hK _ _ (fun _ => HSS.out) ?_
  clear hK K
  refine Y_take (i := 15) (n := 7) (.bool true) rfl (by kernel_rfl) (by kernel_rfl) (by kernel_rfl) (by kernel_rfl) (fun _ _ _ h => h) (by rfl) (fun W9 hW9 => ?_) HSS.out ?_
  · go_simp
  simp only [Act.put, List.setIfInBounds_toArray, List.set_cons_succ, List.set_cons_zero, List.getElem_toArray, List.getElem_cons_succ, List.getElem_cons_zero]
  refine Y_take (i := 16) (n := 6) (.bool true) rfl (by kernel_rfl) (by kernel_rfl) (by kernel_rfl) (by kernel_rfl) (fun _ _ _ h => h) (by rfl) (fun W9 hW9 => ?_) HSS.out ?_
  · go_simp
  simp only [Act.put, List.setIfInBounds_toArray, List.set_cons_succ, List.set_cons_zero, List.getElem_toArray, List.getElem_cons_succ, List.getElem_cons_zero]
  refine Y_take (i := 17) (n := 5) (.bool true) rfl (by kernel_rfl) (by kernel_rfl) (by kernel_rfl) (by kernel_rfl) (fun _ _ _ h => h) (by rfl) (fun W9 hW9 => ?_) HSS.out ?_
  · go_simp
  simp only [Act.put, List.setIfInBounds_toArray, List.set_cons_succ, List.set_cons_zero, List.getElem_toArray, List.getElem_cons_succ, List.getElem_cons_zero]
  refine Y_take (i := 18) (n := 4) (.slice A m cap) rfl (by kernel_rfl) (by kernel_rfl) (by kernel_rfl) (by kernel_rfl) (fun _ _ _ h => h) (by rfl) (fun W9 hW9 => ?_) HSS.out ?_
  · go_simp
  simp only [Act.put, List.setIfInBounds_toArray, List.set_cons_succ, List.set_cons_zero, List.getElem_toArray, List.getElem_cons_succ, List.getElem_cons_zero]
  refine Y_take (i := 19) (n := 3) (.slice A9 m c9) rfl (by kernel_rfl) (by kernel_rfl) (by kernel_rfl) (by kernel_rfl) (fun _ _ _ h => h) (by rfl) (fun W9 hW9 => ?_) HSS.out ?_
  · go_simp
  simp only [Act.put, List.setIfInBounds_toArray, List.set_cons_succ, List.set_cons_zero, List.getElem_toArray, List.getElem_cons_succ, List.getElem_cons_zero]
  refine Y_one (i := 20) (n := 2) (by kernel_rfl) rfl (fun K hK => ?_)
  rw [if_pos (by rfl)]
  go_simp
  go_at_call 11
  refine Calls.mono (rsames_at ((HL.out.later HB.out).later HSS.out) (HL9.out.later HSS.out) HM.out HM.out (by omega) (by omega) HTU.out HTU.out (samRs_self us)) ?_
  rintro e w9 ⟨rfl, b9⟩
  have HSS := hd (step_b HSS.out b9)
  clear b9
  refine hK _ _ (fun _ => HSS.out) ?_
  clear hK K
  refine Y_take (i := 21) (n := 1) (.bool true) rfl (by kernel_rfl) (by kernel_rfl) (by kernel_rfl) (by kernel_rfl) (fun _ _ _ h => h) (by rfl) (fun W9 hW9 => ?_) HSS.out ?_
  · go_simp
  simp only [Act.put, List.setIfInBounds_toArray, List.set_cons_succ, List.set_cons_zero, List.getElem_toArray, List.getElem_cons_succ, List.getElem_cons_zero]
  refine Y_one (i := 22) (n := 0) (by kernel_rfl) rfl (fun K hK => ?_)
  rw [if_pos (by rfl)]
  go_simp
  refine hK _ _ (fun _ => HSS.out) (Y_done (by kernel_rfl) ?_)
  clear hK K
  go_wp2_with fail
  go_ret
  exact ⟨rfl, step_b HB.out HSS.out⟩
set_option maxRecDepth 4000 in
theorem hadds_law {w : World} {A : Option Addr} {cs : List RC} {us : List RefP} {m cap : Nat} {c : NC} {d : RC} {n : NT} {r : RefP} (hn : HasN w c n) (h : LR w A cs us) (hm : us.length = m) (hcap : m ≤ cap) (h63 : m ≤ 9223372036854775807) (id : Int) (hr : RkA w d r) : Calls Try.prog 3 #[.agg c.row, .slice A m cap, .int .i64 id, .agg d.row] w (AllTrue w) := by
  cases f1 : fewB 120 n
  · exact hadds_0 hn h hm h63 hr f1
  cases f2 : fewRs us
  · exact hadds_1 hn h hm h63 hr f1 f2
  cases f3 : fewRs [r]
  · exact hadds_2 hn h hm h63 hr f1 f2 f3
  exact hadds_3 hn h hm hcap hr f1 f2 f3

end Go.Proofs.Ytmglnjmnabjjgaa
