/- Step on a list of one live ref: the program's. The statements' example. -/
import Derived.Test.YtmglnjmnabjjgaaJLFrW
import Derived.Maps.OwnOps
import Derived.Test.YtmglnjmnabjjgaaJLFree
namespace Go.Proofs.Ytmglnjmnabjjgaa
open Go.RowKit
set_option maxRecDepth 4000 in
theorem row_cells (c : RC) : (Value.agg c.row).cells = c.row.toList.toArray := rfl
set_option maxRecDepth 4000 in
theorem row_ones (c : RC) : ∀ u ∈ c.row.toList, u.oneCell' = true := fun u hu => Array.all_eq_true'.1 c.one u (by simpa using hu)
set_option maxRecDepth 4000 in
theorem sz_ref14 : (Try.prog.info? 34).map (·.size) = some 11 := by kernel_rfl
set_option maxRecDepth 4000 in
theorem gone_rk {w : World} {d : RC} {r : RefP} (h : RkA w d r) : ∀ W, RkA W { RC.zero with id := d.id, kind := d.kind, aff := d.aff } (goneR r) := fun W => { RkA.zero W with hid := h.hid, hk := h.hk, ha := h.ha, hlv := rfl, hkw := h.hkw }
set_option maxRecDepth 4000 in
theorem row_lr {w : World} {g : Nat} {d : RC} {r : RefP} (h : RowG w g [d]) (hr : RkA w d r) : LR w (some ⟨g, 0, none⟩) [d] [r] := (RkL.one hr).lr h.vl
set_option maxRecDepth 4000 in
theorem gd_lookup {P : Program} {ops : Array Oper} {Q : Exit → Act → World → Prop} {dst : Option Nat} {t ty : TypeId} {m x : Operand} {ok : Bool} {pos : String} {af : Array Edge} {rest : List Oper} {a : Act} {w : World} (h : wpList P ops Q ({ dst := dst, op := .lookup t m x ok, type := ty, pos := pos, after := af, guard := none } :: rest) a w) : wpList P ops Q ({ dst := dst, op := .lookup t m x ok, type := ty, pos := pos, after := af, guard := none } :: rest) a w := h
set_option maxRecDepth 4000 in
theorem wpList_kind2 {w : World} {ops : Array Oper} {rest : List Oper} {o : Oper} {a : Act} {Q : Exit → Act → World → Prop} {b : Nat} {k : Int} {kc : KC} {is : Bool} (h : KindsAt w b) (hk : (Lit.int .i64 k).wf = true) (hkk : kindK k = (kc, is)) (hg : o.guard = none) (m x : Operand) (hop : o.op = Op.lookup 62 m x true) (hm : a.eval m = .map (some b)) (hx : a.eval x = .int .i64 k)
    (hK : wpList Try.prog ops Q rest (a.put o.dst (.tuple #[.agg kc.row, .bool is])) w) : wpList Try.prog ops Q (o :: rest) a w :=
  wpList_kind h hk hg m x hop hm hx (by rw [hkk]; exact hK)
set_option maxRecDepth 4000 in
theorem kc_ones {kc : KC} (h : kc.chk.oneCell' = true ∧ kc.along.oneCell' = true) : kc.row.all (·.oneCell') = true := by
  rw [Array.all_eq_true']
  intro u hu
  exact kc_all h u (by simpa [KC.row] using hu)
set_option maxRecDepth 100000 in
set_option maxHeartbeats 8000000 in
theorem hstep_go {w : World} {A : Option Addr} {cap : Nat} {d : RC} {r r' : RefP} {o : OC} {a : OpP} {kc : KC} {fid : FuncId} {b : Bool} (h : LR w A [d] [r]) (_hcap : 1 ≤ cap) (ht : tinyR r) (hlv : r.live = true) (ho : OkA w o a) (hkk : kindK d.kind = (kc, true)) (hfn : kc.along = .func (.func fid) #[] #[]) (hent : ∀ args w, (callFunc fid args).run Try.prog w = .ok (.enter fid args) w)
    (hal : ∀ (W : World) (g : Nat) (e : RC), RowG W g [e] → (∀ W', Off g W W' → RkA W' e r) → OkA W o a → Calls Try.prog fid #[.pointer (some ⟨g, 0, none⟩), .agg o.row] W (AlongOk g e (r', b) W)) : Calls Try.prog 19 #[.slice A 1 cap, .agg o.row] w (NewLR w [if b = true then r' else goneR r]) := by
  obtain ⟨res, hres⟩ : ∃ res, (if b = true then r' else goneR r) = res := ⟨_, rfl⟩
  rw [hres]
  have HRES := hd hres
  clear hres
  have HKK := hd hkk
  have HK1 := hd (kind_one d.kind)
  rw [hkk] at HK1
  have HFN := hd hfn
  have HAL := hd hal
  have HLV := hd hlv
  have HDK := hd (show r.kind = d.kind from (h.ha 0 d r rfl rfl).hk)
  have HTR := hd (show ∀ x ∈ [r], tinyR x from fun x hx => by
    simp at hx
    subst hx
    exact ht)
  have hb : Below w.heap.size w (w.alloc (.cells o.row 53)) := (Below.refl _ _).alloc (Nat.le_refl _) _
  have HL := hd (h.later hb)
  have HV := hd (VarR.new w 53 o.row)
  have HO := hd (ho.later hb)
  have HB := hd hb
  obtain ⟨W0, hW⟩ : ∃ W0, w.alloc (.cells o.row 53) = W0 := ⟨_, rfl⟩
  rw [hW] at HL HV HO HB
  have HW := hd hW
  clear h hlv ht ho hkk hfn hal hb hW
  go_enter Try.func19, Try.ntmps19
  go_upto_region 1 with fail
  rw [HW.out]
  go_upto_region 2 with (first
    | (go_at_call 24; refine (kinds_any _).mono ?_; rintro e w1 ⟨mb, rfl, hkm, _, b9⟩; have HKM := hd hkm; have HL := hd (HL.out.later b9); have HV := hd (HV.out.keep b9); have HO := hd (HO.out.later b9); have HB := hd (step_b HB.out b9); have HB1 := HB; clear hkm b9)
    | (go_at_call 22; refine (hfresh_any HL.out rfl (by simp) HTR.out).mono ?_; rintro e w2 ⟨A2, n2, c2, ds, rfl, hn2, hc2, hfr, _, b9⟩; have HKM := hd (HKM.out.below b9); have HV := hd (HV.out.keep b9); have HO := hd (HO.out.later b9); have HB := hd (step_b HB.out b9); clear b9; simp only [List.length_cons, List.length_nil] at hn2; subst hn2; obtain ⟨g, rfl, hfr2⟩ := hfr (by omega); clear hfr; have HF := hd hfr2; clear hfr2))
  go_wp2_with fail
  go_loopw [16] (fun i wr => (i = .int .i64 0 ∧ wr = w2) ∨ (i = .int .i64 1 ∧ Hid (∃ d', LR wr (some ⟨g, 0, none⟩) [d'] [res]) ∧ Hid (Below w.heap.size w wr))) (fun i _ => 1 - (intOf i).toNat)
  case atStart => exact .inl ⟨rfl, rfl⟩
  case round =>
    rcases hrel with ⟨rfl, rfl⟩ | ⟨rfl, HLR, HBR⟩
    · obtain ⟨e, rfl⟩ : ∃ e, ds = [e] := List.length_eq_one_iff.1 HF.out.held.rk.1
      have hrk := HF.out.held.rk.2 0 e r rfl rfl
      have hkd : e.kind = d.kind := hrk.hk.symm.trans HDK.out
      have hWF := hrk.hkw
      have hel : e.live = true := hrk.hlv.symm.trans HLV.out
      have HHE := hd (fun W' (h : Off g wr W') => (HF.out.held W' (OffF.of_off h (.inl rfl))).2 0 e r rfl rfl)
      have HRW := hd HF.out.row
      have u1 : wr.cell? ⟨g, 1, none⟩ = some (.int .i64 d.kind) := hkd ▸ HRW.out.cell rfl
      have u3 : wr.cell? ⟨g, 3, none⟩ = some (.bool true) := hel ▸ HRW.out.cell rfl
      rw [hkd] at hWF
      have HWF := hd hWF
      have HBF := hd HF.out.hi
      have HRK := hd hrk
      have HEK := hd hkd
      clear hrk hkd hWF hel HF
      go_upto_region 8 with (first
        | ((with_reducible refine gd_lookup ?_); refine wpList_kind2 HKM.out HWF.out HKK.out rfl _ _ rfl rfl rfl ?_)
        | ((with_reducible refine gd_store (ty := 60) (x := .tmp 9) ?_); refine wpList_store_row2 rowT_kind (r := kc.row) (VarR.new wr 60 kc0.row) rfl rfl (kc_ones HK1.out) _ _ rfl rfl rfl rfl rfl ?_; intro W5 hv5 ho5; have hb5 := off_below ((Below.refl wr.heap.size wr).alloc (Nat.le_refl _) (.cells kc0.row 60)) ho5 (Nat.le_refl _); have HVK := hd hv5; have HO := hd (HO.out.later hb5); have HV := hd (HV.out.keep hb5); have HRW := hd (HRW.out.keep hb5); have HOF := hd (Off.of_below (g := g) hb5); have HB := hd (step_b HB.out hb5); clear hv5 ho5 hb5 u1 u3))
      have g2 : W5.cell? ⟨wr.heap.size, 2, none⟩ = some (.func (.func fid) #[] #[]) := (HVK.out.cell 2 _ rfl).trans (congrArg some HFN.out)
      have HAN := hd (fun W' (h : Off g W5 W') => HHE.out W' (HOF.out.trans h))
      cases b
      · have HZ := hd (show goneR r = res from HRES.out)
        go_upto_region 9 with (first
          | ((with_reducible refine gd_loadg (ty := 53) (x := .tmp 3) ?_); refine wpList_load_rowg rowT_op HV.out rfl _ rfl (by rfl) rfl ?_; have w6 := True.intro)
          | (have _g := w6; refine (HAL.out W5 g e HRW.out HAN.out HO.out).mono ?_; rintro x w7 ⟨d', rfl, hr7, ho7, i1, i2, i3, _⟩; have HRW := hd hr7; have HB := hd (off_below HB.out ho7 (by have := HBF.out; have := HB1.out.size; omega)); have HI := hd (And.intro i1 (And.intro i2 i3)); clear hr7 ho7 i1 i2 i3 w6))
        refine M_start (S := fun W' => RowG W' g [d']) (m := 13) (by kernel_rfl) ?_
        have HSS := hd (show RowG w7.drew g [d'] from HRW.out)
        refine M_pure (i := 0) (n := 15) (.pointer (some ⟨g, 0, none⟩)) rfl (by kernel_rfl) (by kernel_rfl) (by kernel_rfl) (by kernel_rfl) (fun _ _ _ h => h) (by rfl) (fun W9 => ?_) HSS.out ?_
        · go_simp
        simp only [Act.put, List.setIfInBounds_toArray, List.set_cons_succ, List.set_cons_zero, List.getElem_toArray, List.getElem_cons_zero]
        refine M_pure (i := 1) (n := 14) (.pointer (some ⟨g, 0, none⟩)) rfl (by kernel_rfl) (by kernel_rfl) (by kernel_rfl) (by kernel_rfl) (fun _ _ _ h => h) (by rfl) (fun W9 => ?_) HSS.out ?_
        · go_simp
        simp only [Act.put, List.setIfInBounds_toArray, List.set_cons_succ, List.set_cons_zero, List.getElem_toArray, List.getElem_cons_succ, List.getElem_cons_zero]
        refine M_pure (i := 2) (n := 13) (.pointer (some ⟨g, 0, none⟩)) rfl (by kernel_rfl) (by kernel_rfl) (by kernel_rfl) (by kernel_rfl) (fun _ _ _ h => h) (by rfl) (fun W9 => ?_) HSS.out ?_
        · go_simp
        simp only [Act.put, List.setIfInBounds_toArray, List.set_cons_succ, List.set_cons_zero, List.getElem_toArray, List.getElem_cons_succ, List.getElem_cons_zero]
        refine M_pure (i := 3) (n := 12) (.pointer (some ⟨g, 0, none⟩)) rfl (by kernel_rfl) (by kernel_rfl) (by kernel_rfl) (by kernel_rfl) (fun _ _ _ h => h) (by rfl) (fun W9 => ?_) HSS.out ?_
        · go_simp
        simp only [Act.put, List.setIfInBounds_toArray, List.set_cons_succ, List.set_cons_zero, List.getElem_toArray, List.getElem_cons_succ, List.getElem_cons_zero]
        refine M_take (i := 4) (n := 11) (.int .i64 d'.id) rfl (by kernel_rfl) (by kernel_rfl) (by kernel_rfl) (by kernel_rfl) (by kernel_rfl) (fun _ _ _ h => h) (by rfl) (fun W9 hW9 => ?_) HSS.out ?_
        · have h9 : W9.cell? ⟨g, 0, none⟩ = some (.int .i64 d'.id) := hW9.cell rfl
          go_simp
        simp only [Act.put, List.setIfInBounds_toArray, List.set_cons_succ, List.set_cons_zero, List.getElem_toArray, List.getElem_cons_succ, List.getElem_cons_zero]
        refine M_pure (i := 5) (n := 10) (.pointer (some ⟨g, 0, none⟩)) rfl (by kernel_rfl) (by kernel_rfl) (by kernel_rfl) (by kernel_rfl) (fun _ _ _ h => h) (by rfl) (fun W9 => ?_) HSS.out ?_
        · go_simp
        simp only [Act.put, List.setIfInBounds_toArray, List.set_cons_succ, List.set_cons_zero, List.getElem_toArray, List.getElem_cons_succ, List.getElem_cons_zero]
        refine M_pure (i := 6) (n := 9) (.pointer (some ⟨g, 0, none⟩)) rfl (by kernel_rfl) (by kernel_rfl) (by kernel_rfl) (by kernel_rfl) (fun _ _ _ h => h) (by rfl) (fun W9 => ?_) HSS.out ?_
        · go_simp
        simp only [Act.put, List.setIfInBounds_toArray, List.set_cons_succ, List.set_cons_zero, List.getElem_toArray, List.getElem_cons_succ, List.getElem_cons_zero]
        refine M_pure (i := 7) (n := 8) (.pointer (some ⟨g, 1, none⟩)) rfl (by kernel_rfl) (by kernel_rfl) (by kernel_rfl) (by kernel_rfl) (fun _ _ _ h => h) (by rfl) (fun W9 => ?_) HSS.out ?_
        · go_simp
        simp only [Act.put, List.setIfInBounds_toArray, List.set_cons_succ, List.set_cons_zero, List.getElem_toArray, List.getElem_cons_succ, List.getElem_cons_zero]
        refine M_take (i := 8) (n := 7) (.int .i64 d'.kind) rfl (by kernel_rfl) (by kernel_rfl) (by kernel_rfl) (by kernel_rfl) (by kernel_rfl) (fun _ _ _ h => h) (by rfl) (fun W9 hW9 => ?_) HSS.out ?_
        · have h9 : W9.cell? ⟨g, 1, none⟩ = some (.int .i64 d'.kind) := hW9.cell rfl
          go_simp
        simp only [Act.put, List.setIfInBounds_toArray, List.set_cons_succ, List.set_cons_zero, List.getElem_toArray, List.getElem_cons_succ, List.getElem_cons_zero]
        refine M_pure (i := 9) (n := 6) (.pointer (some ⟨g, 0, none⟩)) rfl (by kernel_rfl) (by kernel_rfl) (by kernel_rfl) (by kernel_rfl) (fun _ _ _ h => h) (by rfl) (fun W9 => ?_) HSS.out ?_
        · go_simp
        simp only [Act.put, List.setIfInBounds_toArray, List.set_cons_succ, List.set_cons_zero, List.getElem_toArray, List.getElem_cons_succ, List.getElem_cons_zero]
        refine M_pure (i := 10) (n := 5) (.pointer (some ⟨g, 0, none⟩)) rfl (by kernel_rfl) (by kernel_rfl) (by kernel_rfl) (by kernel_rfl) (fun _ _ _ h => h) (by rfl) (fun W9 => ?_) HSS.out ?_
        · go_simp
        simp only [Act.put, List.setIfInBounds_toArray, List.set_cons_succ, List.set_cons_zero, List.getElem_toArray, List.getElem_cons_succ, List.getElem_cons_zero]
        refine M_pure (i := 11) (n := 4) (.pointer (some ⟨g, 2, none⟩)) rfl (by kernel_rfl) (by kernel_rfl) (by kernel_rfl) (by kernel_rfl) (fun _ _ _ h => h) (by rfl) (fun W9 => ?_) HSS.out ?_
        · go_simp
        simp only [Act.put, List.setIfInBounds_toArray, List.set_cons_succ, List.set_cons_zero, List.getElem_toArray, List.getElem_cons_succ, List.getElem_cons_zero]
        refine M_take (i := 12) (n := 3) (.int .i64 d'.aff) rfl (by kernel_rfl) (by kernel_rfl) (by kernel_rfl) (by kernel_rfl) (by kernel_rfl) (fun _ _ _ h => h) (by rfl) (fun W9 hW9 => ?_) HSS.out ?_
        · have h9 : W9.cell? ⟨g, 2, none⟩ = some (.int .i64 d'.aff) := hW9.cell rfl
          go_simp
        simp only [Act.put, List.setIfInBounds_toArray, List.set_cons_succ, List.set_cons_zero, List.getElem_toArray, List.getElem_cons_succ, List.getElem_cons_zero]
        refine M_one (n := 2) (by kernel_rfl) rfl (by kernel_rfl) (fun K hK => ?_)
        rw [if_pos (by rfl)]
        go_simp
        refine hK _ _ ?_
        clear hK K
        refine Y_take (i := 14) (n := 1) (.pointer (some ⟨g, 0, none⟩)) rfl (by kernel_rfl) (by kernel_rfl) (by kernel_rfl) (by kernel_rfl) (fun _ _ _ h => h) (by rfl) (fun W9 _ => ?_) trivial ?_
        · go_simp
        simp only [Act.put, List.setIfInBounds_toArray, List.set_cons_succ, List.set_cons_zero, List.getElem_toArray, List.getElem_cons_succ, List.getElem_cons_zero]
        refine Y_one (i := 15) (n := 0) (by kernel_rfl) rfl (fun K hK => ?_)
        rw [if_pos (by rfl)]
        refine wp_store_g sz_ref14 HSS.out _ _ rfl rfl 0 (.agg ({ RC.zero with id := d'.id, kind := d'.kind, aff := d'.aff } : RC).row) ({ RC.zero with id := d'.id, kind := d'.kind, aff := d'.aff } : RC).row.toList [{ RC.zero with id := d'.id, kind := d'.kind, aff := d'.aff }] rfl rfl (row_cells _) rfl (row_ones _) (by decide) (by rw [cellsR_len]; show 0 + 11 ≤ 1 * 11; decide) rfl ?_
        intro W8 hr8 ho8
        have HB := hd (off_below (HB.out.trans ((Below.refl w7.heap.size w7).drew.mono HB.out.size)) ho8 (by have := HBF.out; have := HB1.out.size; omega))
        have HLR := hd (row_lr hr8 (show RkA W8 { RC.zero with id := d'.id, kind := d'.kind, aff := d'.aff } (goneR r) by
          obtain ⟨i1, i2, i3⟩ := HI.out
          rw [i1, i2, i3]
          exact gone_rk HRK.out W8))
        clear hr8 ho8
        refine hK _ _ (fun _ => trivial) (Y_done (by kernel_rfl) ?_)
        clear hK K
        go_wp2_with fail
        go_roundw
        case rel => exact .inr ⟨by go_num, hd ⟨_, HZ.out ▸ HLR.out⟩, HB⟩
        case measure => simp [intOf]
      · have HZ := hd (show r' = res from HRES.out)
        go_wp2_with (first
          | ((with_reducible refine gd_loadg (ty := 53) (x := .tmp 3) ?_); refine wpList_load_rowg rowT_op HV.out rfl _ rfl (by rfl) rfl ?_; have w6 := True.intro)
          | (have _g := w6; refine (HAL.out W5 g e HRW.out HAN.out HO.out).mono ?_; rintro x w7 ⟨d', rfl, hr7, ho7, _, _, _, h8⟩; have HB := hd (off_below HB.out ho7 (by have := HBF.out; have := HB1.out.size; omega)); have HLR := hd (row_lr hr7 (h8 rfl)); clear hr7 ho7 w6))
        go_roundw
        case rel => exact .inr ⟨by go_num, hd ⟨d', HZ.out ▸ HLR.out⟩, HB⟩
        case measure => simp [intOf]
    · go_wp2_with fail
      go_ret
      obtain ⟨d', hd'⟩ := HLR.out
      exact ⟨_, 1, c2, _, rfl, rfl, hc2, hd', HBR.out⟩

end Go.Proofs.Ytmglnjmnabjjgaa

namespace Go.Proofs.Ytmglnjmnabjjgaa
open Go.RowKit

/-- Step on one live ref of a path. -/
theorem hstep_p {w : World} {A : Option Addr} {cap : Nat} {d : RC} {r : RefP} {o : OC} {a : OpP} {x : List Int} {b : Bool} (h : LR w A [d] [r]) (hcap : 1 ≤ cap) (ht : tinyR r) (hlv : r.live = true) (hk : r.kind = 1) (ho : OkA w o a) (ta : Tiny a) (hm : moveL a.k a.q a.t a.z r.p = (x, b)) : Calls Try.prog 19 #[.slice A 1 cap, .agg o.row] w (NewLR w [if b = true then { r with p := x } else goneR r]) := by
  have hd1 : d.kind = 1 := (h.ha 0 d r rfl rfl).hk.symm.trans hk
  exact hstep_go (kc := kc1) (fid := 38) h hcap ht hlv ho (by rw [hd1]; rfl) rfl (fun _ _ => rfl) (fun W g e g1 g2 g3 => halong1 g1 g2 g3 ta ht.1 hm)

def exR : RefP := ⟨4, 1, 0, true, [0], ([], 0), ([], 0), ([], 0)⟩
def exC (b : Nat) : RC := ⟨4, 1, 0, true, some ⟨b, 0, none⟩, 1, 1, none, 0, 0, 0, none, 0, 0, 0, none, 0, 0, 0⟩
def exP : OpP := { zeroO with k := 1, q := [0] }
set_option maxRecDepth 4000 in
theorem exP_tiny : Tiny exP := by constructor <;> simp [exP, zeroO, zeroS]
set_option maxRecDepth 4000 in
theorem exP_move : moveL exP.k exP.q exP.t exP.z exR.p = ([1], true) := by decide
def exOC (b : Nat) : OC := OC.mk 1 (some ⟨b, 0, none⟩) 1 1 none 0 0 0 false none 0 0 none 0 0 none 0 0 none 0 0 none 0 0 none 0 0 false none 0 0 0 none 0 0 0 false none 0 0 0 none 0 0 0
set_option maxRecDepth 4000 in
theorem exP_at {W : World} {b : Nat} (h : IL W W.heap.size (some ⟨b, 0, none⟩) [0]) : OkA W (exOC b) exP :=
  ((OkA.zero W).setK (k := 1) (by unfold In64; omega)).setQ (l := [0]) (n := 1) (d := 1) rfl (by omega) (by omega) h (fun j hj => by
    obtain rfl : j = 0 := by simp at hj; omega
    exact ⟨by decide, by decide⟩)
set_option maxRecDepth 4000 in
theorem exR_at {W : World} {b : Nat} (h : IL W W.heap.size (some ⟨b, 0, none⟩) [0]) : RkA W (exC b) exR := ⟨rfl, rfl, rfl, rfl, ⟨rfl, Nat.le_refl _, (by show 1 ≤ 9223372036854775807; decide), h⟩, PathC.nil _, rfl, PathC.nil _, rfl, PathC.nil _, rfl, rfl⟩
set_option maxRecDepth 4000 in
theorem hgd_build2 {P : Program} {ops : Array Oper} {Q : Exit → Act → World → Prop} {dst : Option Nat} {ty : TypeId} {k : Nat} {ps : Array (Nat × Operand)} {t : TypeId} {pos : String} {af : Array Edge} {rest : List Oper} {a : Act} {w : World} (h : wpList P ops Q ({ dst := dst, op := .buildSlice ty k ps, type := t, pos := pos, after := af, guard := none } :: rest) a w) : wpList P ops Q ({ dst := dst, op := .buildSlice ty k ps, type := t, pos := pos, after := af, guard := none } :: rest) a w := h
set_option maxRecDepth 4000 in
theorem il_1 (W : World) (x : Int) (t : TypeId) : IL (W.alloc (.cells #[.int .i64 x] t)) (W.alloc (.cells #[.int .i64 x] t)).heap.size (some ⟨W.heap.size, 0, none⟩) [x] := fun _ => ⟨W.heap.size, 0, rfl, by simp, fun k hk => by
  rw [World.cell?_alloc_at _ _ _ _ rfl]
  match k, hk with
  | 0, _ => rfl⟩
set_option maxRecDepth 100000 in
set_option maxHeartbeats 4000000 in
theorem live14_any (w : World) : Calls Try.prog 6 #[] w (Still (.bool true) w) := by
  have HB1 := hd ((Below.refl w.heap.size w).alloc (Nat.le_refl _) (.cells #[.int .i64 0] 3))
  have HI1 := hd (il_1 w 0 3)
  obtain ⟨w1, hw1⟩ : ∃ W, w.alloc (.cells #[.int .i64 0] 3) = W := ⟨_, rfl⟩
  rw [hw1] at HB1 HI1
  have HW1 := hd hw1
  have HR := hd (exR_at HI1.out)
  have HLR := hd (one_lr HR.out)
  have HB2 := hd (step_b HB1.out (ref_var w1 (exC w.heap.size)).2)
  obtain ⟨w2, hw2⟩ : ∃ W, w1.alloc (.cells (exC w.heap.size).row 34) = W := ⟨_, rfl⟩
  rw [hw2] at HLR HB2
  have HW2 := hd hw2
  have HI3 := hd (il_1 w2 0 3)
  have HB3 := hd ((Below.refl w2.heap.size w2).alloc (Nat.le_refl _) (.cells #[.int .i64 0] 3))
  have HL3 := hd (HLR.out.later HB3.out)
  have HB3 := hd (step_b HB2.out HB3.out)
  obtain ⟨w3, hw3⟩ : ∃ W, w2.alloc (.cells #[.int .i64 0] 3) = W := ⟨_, rfl⟩
  rw [hw3] at HI3 HL3 HB3
  have HW3 := hd hw3
  have HO := hd (exP_at HI3.out)
  have HC := hd (hstep_p (cap := 1) HL3.out (Nat.le_refl _) ⟨by decide, by decide, by decide, by decide⟩ rfl rfl HO.out exP_tiny exP_move)
  clear hw1 hw2 hw3 HI1 HR HLR HB1 HB2 HI3 HL3 HO
  go_enter Try.func6, Try.ntmps6
  go_wp2_with (first
    | ((with_reducible refine hgd_build2 (ty := 27) (k := 1) ?_); rw [HW1.out]; refine wpList_build_ref (c := exC w.heap.size) _ rfl rfl rfl ?_; rw [HW2.out])
    | (go_at_call 19; rw [HW3.out]; refine Calls.mono HC.out ?_; rintro e w4 ⟨A4, n4, c4, ds, rfl, hn4, hc4, hlr, b9⟩; simp only [List.length_cons, List.length_nil] at hn4; subst hn4; rw [if_pos rfl] at hlr; obtain ⟨b, q, c, rfl, hb, hrk, hrg⟩ := hlr.one; have HB := hd (step_b HB3.out b9); have HP := hd hrk.hp; have y3 : w4.cell? ⟨b, q + 3, none⟩ = some (.bool true) := (hrg 3 _ rfl).trans (congrArg (fun z => some (Value.bool z)) hrk.hlv.symm); have y0 : w4.cell? ⟨b, q, none⟩ = some (.int .i64 4) := (hrg 0 _ rfl).trans (congrArg (fun z => some (Value.int .i64 z)) hrk.hid.symm); have y4 := hrg 4 _ rfl; clear hlr hrk hrg b9 hb)
    | (go_at_call 20; have b9 := (Below.refl w4.heap.size w4).alloc (Nat.le_refl _) (.cells #[.int .i64 1] 3); refine Calls.mono (xsame_at (show XA _ (.slice c.P c.np c.cp) [1] from ⟨_, _, _, rfl, (HP.out.later b9).len, by have h1 := HP.out.len; simp at h1; omega, (HP.out.later b9).cap, (HP.out.later b9).il⟩) (show XA _ (.slice (some ⟨w4.heap.size, 0, none⟩) 1 1) [1] from ⟨_, _, _, rfl, rfl, by decide, by decide, il_1 w4 1 3⟩) (show samI [1] [1] = true from rfl)) ?_; rintro e w5 ⟨rfl, b8⟩; have HB := hd (step_b (step_b HB.out b9) b8); clear b8 b9))
  go_ret
  exact ⟨rfl, HB.out⟩

end Go.Proofs.Ytmglnjmnabjjgaa
