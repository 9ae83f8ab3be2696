/- Whether a ref may be: the program's Check. Check: the program's, whole. Where the first ref with a number stands: slices.IndexFunc, find. -/
import Derived.Test.YtmglnjmnabjjgaaJLFree
import Derived.Test.YtmglnjmnabjjgaaJLFreshWK
import Derived.Test.YtmglnjmnabjjgaaJLOpen
import Derived.Test.YtmglnjmnabjjgaaJKCmp
import Derived.Test.YtmglnjmnabjjgaaJTGetAWK
import Derived.Test.YtmglnjmnabjjgaaJXMove5
namespace Go.Proofs.Ytmglnjmnabjjgaa
open Go.RowKit

theorem hor_any (A : Option Addr) (l : List Int) (n c : Nat) (w : World) (hn : l.length = n) (hl : n ≤ 1000) (hp : IL w w.heap.size A l) :
    Calls Try.prog 45 #[.slice A n c] w fun e w' => e = .returned (.int .i64 (orL l)) ∧ w' = w := by
  have HP := hd hp
  have HN := hd hn
  clear hp hn
  go_enter Try.func45, Try.ntmps45
  go_wp2
  go_loopw [8] (fun i wr => ∃ k : Nat, k ≤ n ∧ i = .int .i64 k ∧ wr = w ∧ Hid (∀ j, j < k → iAt l j = 0)) (fun i _ => n - (intOf i).toNat)
  case atStart => exact ⟨0, Nat.zero_le _, rfl, by trivial, fun j hj => absurd hj (Nat.not_lt_zero _)⟩
  case round =>
    obtain ⟨k, hk, rfl, rfl, HA⟩ := hrel
    by_cases hlt : k < n
    · obtain ⟨b, o, rfl, hbl, hc⟩ := HP.out.at_ (k := k) (by rw [HN.out]; exact hlt)
      by_cases hz : iAt l k = 0
      · have HB := one_more (p := fun j => iAt l j = 0) HA hz
        have hx : (iAt l k != 0) = false := by simp [hz]
        clear HA hz
        go_wp2
        go_roundw
        case rel => exact ⟨k + 1, by omega, by go_num, by trivial, HB⟩
        case measure => simp [intOf]; omega
      · have HF := hd (orL_at l k (by rw [HN.out]; exact hlt) HA.out hz)
        have hx : (iAt l k != 0) = true := by simp [hz]
        clear HA hz
        go_wp2
        go_ret
        exact ⟨ret_int HF.out.symm, by trivial⟩
    · have HF := hd (orL_none l fun j hj => HA.out j (by rw [HN.out] at hj; omega))
      clear HA
      go_wp2
      go_ret
      exact ⟨ret_int HF.out.symm, by trivial⟩
set_option maxRecDepth 4000 in
theorem hpt_check {w : World} {c : NC} {v : Value} {n : NT} {p : List Int × Int} {E : Int} (hn : HasN w c n) (hp : PtAt w v p) (hE : chkP n p = E) : Calls Try.prog 41 #[.agg c.row, v] w (Still (.int .i64 E) w) := by
  obtain ⟨d, hn⟩ := hn
  exact hE ▸ check_at (Below.refl _ _) hn hp

set_option maxRecDepth 4000 in
theorem VarR.pts {W : World} {g : Nat} {c : RC} (h : VarR 34 W g c.row) : W.rangeAt g 5 [.slice c.Q c.nq c.cq, .int .i64 c.qo] ∧ W.rangeAt g 7 [.slice c.A c.na c.ca, .int .i64 c.ao] ∧ W.rangeAt g 9 [.slice c.F c.nf c.cf, .int .i64 c.fo] ∧ W.rangeAt g 7 [.slice c.A c.na c.ca, .int .i64 c.ao, .slice c.F c.nf c.cf, .int .i64 c.fo] := by
  refine ⟨fun j v hv => ?_, fun j v hv => ?_, fun j v hv => ?_, fun j v hv => ?_⟩
  · exact h.cell _ _ (match j, hv with
      | 0, hv => hv
      | 1, hv => hv
      | _ + 2, hv => by simp at hv)
  · exact h.cell _ _ (match j, hv with
      | 0, hv => hv
      | 1, hv => hv
      | _ + 2, hv => by simp at hv)
  · exact h.cell _ _ (match j, hv with
      | 0, hv => hv
      | 1, hv => hv
      | _ + 2, hv => by simp at hv)
  · exact h.cell _ _ (match j, hv with
      | 0, hv => hv
      | 1, hv => hv
      | 2, hv => hv
      | 3, hv => hv
      | _ + 4, hv => by simp at hv)
set_option maxRecDepth 4000 in
theorem exec_load_at {t : TypeId} {n : Nat} (hrow : RowT t n) {a : Act} {o : Oper} {W : World} {g off : Nat} {vs : List Value} (h : W.rangeAt g off vs) (hn : vs.length = n) (x : Operand) (ho : o.op = .load t x) (hx : a.eval x = .pointer (some ⟨g, off, none⟩)) : (execOp a.eval o).run Try.prog W = .ok (.value (.agg vs.toArray)) W := by
  obtain ⟨d, h1, h2, h3⟩ := hrow
  have hr := run_loadAt_mid W g off t vs d h h1 h2 (by rw [h3, ← hn])
  unfold execOp
  simp only [Instr.loadAt, Instr.sureAddr, Sem.run_bind, Sem.run_pure, Result.andThen_ok] at hr
  simp only [ho, hx, Instr.loadAt, Instr.sureAddr, Sem.run_bind, Sem.run_pure, Result.andThen_ok, hr]

set_option maxRecDepth 4000 in
theorem or2 (a b : Int) : orL [a, b] = if a ≠ 0 then a else b := by
  by_cases h : a = 0
  · by_cases g : b = 0
    · simp [orL, h, g]
    · simp [orL, h, g]
  · simp [orL, h]
/-- A node and a ref in variables of the call's own. -/
structure S2 (w : World) (c : NC) (d : RC) (n : NT) (r : RefP) (W : World) : Prop where
  v1 : VarR 26 W w.heap.size c.row
  v2 : VarR 34 W (w.heap.size + 1) d.row
  hn : HasN W c n
  hr : RkA W d r
  below : Below w.heap.size w W
set_option maxRecDepth 4000 in
theorem S2.call {w W W' : World} {c : NC} {d : RC} {n : NT} {r : RefP} (h : S2 w c d n r W) (hb : Below W.heap.size W W') : S2 w c d n r W' := ⟨h.v1.keep hb, h.v2.keep hb, h.hn.later hb, h.hr.later hb, h.below.trans (hb.mono h.below.size)⟩
set_option maxRecDepth 4000 in
theorem s2_vars {w : World} {c : NC} {d : RC} {n : NT} {r : RefP} (hn : HasN w c n) (hr : RkA w d r) : ∃ W0, (w.alloc (.cells c.row 26)).alloc (.cells d.row 34) = W0 ∧ S2 w c d n r W0 := by
  obtain ⟨W0, hW, hb0, v1, v2⟩ := lvars2 w 26 34 c.row d.row
  exact ⟨W0, hW, v1, v2, hn.later hb0, hr.later hb0, hb0⟩
set_option maxRecDepth 100000 in
set_option maxHeartbeats 4000000 in
theorem hkind1 {w : World} {c : NC} {d : RC} {n : NT} {r : RefP} {E : Int} (hn : HasN w c n) (hr : RkA w d r) (ht : tinyR r) (hE : (getE n r.p).2 = E) : Calls Try.prog 36 #[.agg c.row, .agg d.row] w (Still (.int .i64 E) w) := by
  obtain ⟨W0, hW, hst⟩ := s2_vars hn hr
  have HW := hd hW
  have HS := hd hst
  have HT := hd ht
  have HE := hd hE
  clear hW hst hn hr ht hE
  go_enter Try.func36, Try.ntmps36
  go_upto_region 1 with fail
  rw [HW.out]
  obtain ⟨_, u4, _⟩ := HS.out.v2.eleven
  go_wp2_with (first
    | ((with_reducible refine gd_load (ty := 26) (x := .tmp 2) ?_); refine wpList_load_row rowT_node HS.out.v1 rfl _ rfl rfl rfl ?_)
    | (go_at_call 37; refine Calls.mono (hthere_any HS.out.hn HS.out.hr.hp.len (by have h1 := HT.out.1; have h2 := HS.out.hr.hp.len; omega) HS.out.hr.hp.il HE.out) ?_; rintro e w9 ⟨rfl, b9⟩; have HS := hd (HS.out.call b9); clear b9))
  go_ret
  exact ⟨rfl, HS.out.below⟩
set_option maxRecDepth 100000 in
set_option maxHeartbeats 4000000 in
theorem hkind3 {w : World} {c : NC} {d : RC} {n : NT} {r : RefP} {E : Int} (hn : HasN w c n) (hr : RkA w d r) (ht : tinyR r) (hE : chkP n r.q = E) : Calls Try.prog 40 #[.agg c.row, .agg d.row] w (Still (.int .i64 E) w) := by
  obtain ⟨W0, hW, hst⟩ := s2_vars hn hr
  have HW := hd hW
  have HS := hd hst
  have HT := hd ht
  have HE := hd hE
  clear hW hst hn hr ht hE
  go_enter Try.func40, Try.ntmps40
  go_upto_region 1 with fail
  rw [HW.out]
  obtain ⟨_, _, ⟨u5, u6⟩, _⟩ := HS.out.v2.eleven
  go_wp2_with (first
    | ((with_reducible refine gd_load (ty := 26) (x := .tmp 2) ?_); refine wpList_load_row rowT_node HS.out.v1 rfl _ rfl rfl rfl ?_)
    | (go_at_call 41; refine Calls.mono (hpt_check HS.out.hn (HS.out.hr.ptT HT.out) HE.out) ?_; rintro e w9 ⟨rfl, b9⟩; have HS := hd (HS.out.call b9); clear b9))
  go_ret
  exact ⟨rfl, HS.out.below⟩
set_option maxRecDepth 100000 in
set_option maxHeartbeats 4000000 in
theorem hkind5 {w : World} {c : NC} {d : RC} {n : NT} {r : RefP} {E1 E2 E : Int} (hn : HasN w c n) (hr : RkA w d r) (ht : tinyR r) (hE : chkP n r.a = E1) (hE2 : chkP n r.f = E2) (hE3 : (if E1 ≠ 0 then E1 else E2) = E) : Calls Try.prog 44 #[.agg c.row, .agg d.row] w (Still (.int .i64 E) w) := by
  have HE3 := hd ((or2 E1 E2).trans hE3)
  clear hE3
  have HE2 := hd hE2
  clear hE2
  obtain ⟨W0, hW, hst⟩ := s2_vars hn hr
  have HW := hd hW
  have HS := hd hst
  have HT := hd ht
  have HE := hd hE
  clear hW hst hn hr ht hE
  go_enter Try.func44, Try.ntmps44
  go_upto_region 1 with fail
  rw [HW.out]
  refine Y_start (S := fun W' => S2 w c d n r W') (z := fun _ => false) (by kernel_rfl) ?_
  have HSS := hd (HS.out.call (Below.refl W0.heap.size W0).drew)
  refine Y_take (i := 0) (n := 12) (.agg c.row) rfl (by kernel_rfl) (by kernel_rfl) (by kernel_rfl) (by kernel_rfl) (fun _ _ _ h => h) (by rfl) (fun W9 hW9 => ?_) HSS.out ?_
  · exact exec_load_row rowT_node hW9.v1 rfl _ rfl rfl
  simp only [Act.put, List.setIfInBounds_toArray, List.set_cons_succ, List.set_cons_zero, List.getElem_toArray, List.getElem_cons_zero]
  refine Y_take (i := 1) (n := 11) (.pointer (some ⟨w.heap.size + 1, 7, none⟩)) rfl (by kernel_rfl) (by kernel_rfl) (by kernel_rfl) (by kernel_rfl) (fun _ _ _ h => h) (by rfl) (fun W9 hW9 => ?_) HSS.out ?_
  · go_simp
  simp only [Act.put, List.setIfInBounds_toArray, List.set_cons_succ, List.set_cons_zero, List.getElem_toArray, List.getElem_cons_succ, List.getElem_cons_zero]
  refine Y_take (i := 2) (n := 10) (.pointer (some ⟨w.heap.size + 1, 7, none⟩)) rfl (by kernel_rfl) (by kernel_rfl) (by kernel_rfl) (by kernel_rfl) (fun _ _ _ h => h) (by rfl) (fun W9 hW9 => ?_) HSS.out ?_
  · go_simp
  simp only [Act.put, List.setIfInBounds_toArray, List.set_cons_succ, List.set_cons_zero, List.getElem_toArray, List.getElem_cons_succ, List.getElem_cons_zero]
  refine Y_take (i := 3) (n := 9) (.agg #[.slice d.A d.na d.ca, .int .i64 d.ao]) rfl (by kernel_rfl) (by kernel_rfl) (by kernel_rfl) (by kernel_rfl) (fun _ _ _ h => h) (by rfl) (fun W9 hW9 => ?_) HSS.out ?_
  · exact exec_load_at lrowT_pt hW9.v2.pts.2.1 rfl _ rfl rfl
  simp only [Act.put, List.setIfInBounds_toArray, List.set_cons_succ, List.set_cons_zero, List.getElem_toArray, List.getElem_cons_succ, List.getElem_cons_zero]
  refine Y_take (i := 5) (n := 8) (.agg c.row) rfl (by kernel_rfl) (by kernel_rfl) (by kernel_rfl) (by kernel_rfl) (fun _ _ _ h => h) (by rfl) (fun W9 hW9 => ?_) HSS.out ?_
  · exact exec_load_row rowT_node hW9.v1 rfl _ rfl rfl
  simp only [Act.put, List.setIfInBounds_toArray, List.set_cons_succ, List.set_cons_zero, List.getElem_toArray, List.getElem_cons_succ, List.getElem_cons_zero]
  refine Y_take (i := 6) (n := 7) (.pointer (some ⟨w.heap.size + 1, 7, none⟩)) rfl (by kernel_rfl) (by kernel_rfl) (by kernel_rfl) (by kernel_rfl) (fun _ _ _ h => h) (by rfl) (fun W9 hW9 => ?_) HSS.out ?_
  · go_simp
  simp only [Act.put, List.setIfInBounds_toArray, List.set_cons_succ, List.set_cons_zero, List.getElem_toArray, List.getElem_cons_succ, List.getElem_cons_zero]
  refine Y_take (i := 7) (n := 6) (.pointer (some ⟨w.heap.size + 1, 9, none⟩)) rfl (by kernel_rfl) (by kernel_rfl) (by kernel_rfl) (by kernel_rfl) (fun _ _ _ h => h) (by rfl) (fun W9 hW9 => ?_) HSS.out ?_
  · go_simp
  simp only [Act.put, List.setIfInBounds_toArray, List.set_cons_succ, List.set_cons_zero, List.getElem_toArray, List.getElem_cons_succ, List.getElem_cons_zero]
  refine Y_take (i := 8) (n := 5) (.agg #[.slice d.F d.nf d.cf, .int .i64 d.fo]) rfl (by kernel_rfl) (by kernel_rfl) (by kernel_rfl) (by kernel_rfl) (fun _ _ _ h => h) (by rfl) (fun W9 hW9 => ?_) HSS.out ?_
  · exact exec_load_at lrowT_pt hW9.v2.pts.2.2.1 rfl _ rfl rfl
  simp only [Act.put, List.setIfInBounds_toArray, List.set_cons_succ, List.set_cons_zero, List.getElem_toArray, List.getElem_cons_succ, List.getElem_cons_zero]
  refine Y_one (i := 4) (n := 4) (by kernel_rfl) rfl (fun K hK => ?_)
  rw [if_pos (by rfl)]
  go_simp
  go_at_call 41
  refine (hpt_check HSS.out.hn (HSS.out.hr.paT HT.out) HE.out).mono ?_
  rintro e w2 ⟨rfl, b9⟩
  have HSS := hd (HSS.out.call b9)
  clear b9
  refine hK _ _ (fun _ => HSS.out) ?_
  clear hK K
  refine Y_one (i := 9) (n := 3) (by kernel_rfl) rfl (fun K hK => ?_)
  rw [if_pos (by rfl)]
  go_simp
  go_at_call 41
  refine (hpt_check HSS.out.hn (HSS.out.hr.pfT HT.out) HE2.out).mono ?_
  rintro e w3 ⟨rfl, b9⟩
  have HSS := hd (HSS.out.call b9)
  clear b9
  refine hK _ _ (fun _ => HSS.out) ?_
  clear hK K
  refine Y_one (i := 10) (n := 2) (by kernel_rfl) rfl (fun K hK => ?_)
  rw [if_pos (by rfl)]
  go_simp
  have hb9 : Below w3.heap.size w3 (w3.alloc (.cells #[.int .i64 E1, .int .i64 E2] 38)) := (Below.refl _ _).alloc (Nat.le_refl _) _
  have HSS := hd (HSS.out.call hb9)
  have HIL := hd (show IL (w3.alloc (.cells #[.int .i64 E1, .int .i64 E2] 38)) (w3.alloc (.cells #[.int .i64 E1, .int .i64 E2] 38)).heap.size (some ⟨w3.heap.size, 0, none⟩) [E1, E2] from fun _ => ⟨w3.heap.size, 0, rfl, by simp, fun k hk => by
    rw [World.cell?_alloc_at _ _ _ _ rfl]
    match k, hk with
    | 0, _ => rfl
    | 1, _ => rfl⟩)
  clear hb9
  refine hK _ _ (fun _ => HSS.out) ?_
  clear hK K
  refine Y_one (i := 11) (n := 1) (by kernel_rfl) rfl (fun K hK => ?_)
  rw [if_pos (by rfl)]
  go_simp
  go_at_call 45
  refine (hor_any (some ⟨w3.heap.size, 0, none⟩) [E1, E2] 2 2 _ rfl (by omega) HIL.out).mono ?_
  rintro e w5 ⟨rfl, rfl⟩
  refine hK _ _ (fun _ => HSS.out) ?_
  clear hK K
  refine Y_one (i := 12) (n := 0) (by kernel_rfl) rfl (fun K hK => ?_)
  rw [if_pos (by rfl)]
  go_simp
  refine hK _ _ (fun _ => HSS.out) (Y_done (by kernel_rfl) ?_)
  clear hK K
  go_wp2_with fail
  go_ret
  exact ⟨ret_int HE3.out, HSS.out.below⟩

set_option maxRecDepth 4000 in
theorem Y_mono {P : Program} {ops : Array Oper} {Q : Exit → Act → World → Prop} {S S' : World → Prop} {z : Nat → Bool} (hS : ∀ w, S' w → S w) : ∀ {n : Nat} {listed : Array Bool} {a : Act} {w : World}, wpAnyY P ops Q S' z n listed a w → wpAnyY P ops Q S z n listed a w
  | 0, _, _, _, h => h
  | _ + 1, _, _, _, h => ⟨h.1, fun i hi => wpOp_mono (fun _ _w' h' => ⟨fun hz => hS _ (h'.1 hz), Y_mono hS h'.2⟩) (h.2 i hi)⟩
set_option maxRecDepth 4000 in
theorem exec_kind {a : Act} {o : Oper} {W : World} {b : Nat} {k : Int} {kc : KC} {is : Bool} (h : KindsAt W b) (hk : (Lit.int .i64 k).wf = true) (hkk : kindK k = (kc, is)) (m x : Operand) (hop : o.op = Op.lookup 62 m x true) (hm : a.eval m = .map (some b)) (hx : a.eval x = .int .i64 k) : (execOp a.eval o).run Try.prog W = .ok (.value (.tuple #[.agg kc.row, .bool is])) W := by
  have h2 := run_kind h hk
  rw [hkk] at h2
  simp [execOp, hop, hm, hx, h2, Result.andThen]
set_option maxRecDepth 4000 in
theorem sz_kind : (Try.prog.info? 60).map (·.size) = some 3 := by kernel_rfl
set_option maxRecDepth 100000 in
set_option maxHeartbeats 8000000 in
theorem hchk_0 {w : World} {c : NC} {d : RC} {n : NT} {r : RefP} {kc : KC} (hn : HasN w c n) (hr : RkA w d r) (ht : tinyR r) (hkk : kindK d.kind = (kc, false)) : Calls Try.prog 12 #[.agg c.row, .agg d.row] w (Still (.int .i64 1) w) := by
  have hE := True.intro
  have HKK := hd hkk
  have HWF := hd hr.hkw
  have HK1 := hd (kind_one d.kind)
  rw [hkk] at HK1
  clear hkk
  obtain ⟨W0, hW, hst⟩ := s2_vars hn hr
  have HW := hd hW
  have HS := hd hst
  have HT := hd ht
  have HE := hd hE
  clear hW hst hn hr ht hE
  go_enter Try.func12, Try.ntmps12
  go_upto_region 1 with fail
  rw [HW.out]
  refine Y_start (S := fun W' => S2 w c d n r W') (z := fun _ => false) (by kernel_rfl) ?_
  have HSS := hd (HS.out.call (Below.refl W0.heap.size W0).drew)
  refine Y_take (i := 1) (n := 9) (.pointer (some ⟨w.heap.size + 1, 1, none⟩)) rfl (by kernel_rfl) (by kernel_rfl) (by kernel_rfl) (by kernel_rfl) (fun _ _ _ h => h) (by rfl) (fun W9 hW9 => ?_) HSS.out ?_
  · go_simp
  simp only [Act.put, List.setIfInBounds_toArray, List.set_cons_succ, List.set_cons_zero, List.getElem_toArray, List.getElem_cons_succ, List.getElem_cons_zero]
  refine Y_take (i := 2) (n := 8) (.int .i64 d.kind) rfl (by kernel_rfl) (by kernel_rfl) (by kernel_rfl) (by kernel_rfl) (fun _ _ _ h => h) (by rfl) (fun W9 hW9 => ?_) HSS.out ?_
  · have h9 : W9.cell? ⟨w.heap.size + 1, 1, none⟩ = some (.int .i64 d.kind) := hW9.v2.cell 1 _ rfl
    go_simp
  simp only [Act.put, List.setIfInBounds_toArray, List.set_cons_succ, List.set_cons_zero, List.getElem_toArray, List.getElem_cons_succ, List.getElem_cons_zero]
  refine Y_two (i := 0) (j := 7) (n := 7) (by kernel_rfl) rfl rfl (fun K hK => ?_) (fun K hK => ?_)
  · rw [if_pos (by rfl)]
    go_simp
    go_at_call 24
    refine (kinds_any _).mono ?_
    rintro e w2 ⟨mb, rfl, hkm, _, b9⟩
    have HKW := hd hkm
    have HSS := hd (HSS.out.call b9)
    clear b9 hkm
    refine hK _ _ (fun _ => HSS.out) ?_
    clear hK K
    refine Y_mono (S' := fun W' => S2 w c d n r W' ∧ KindsAt W' mb) (fun _ h => h.1) ?_
    have HSS := hd (And.intro HSS.out HKW.out)
    refine Y_take (i := 3) (n := 6) (.tuple #[.agg kc.row, .bool false]) rfl (by kernel_rfl) (by kernel_rfl) (by kernel_rfl) (by kernel_rfl) (fun _ _ _ h => h) (by rfl) (fun W9 hW9 => ?_) HSS.out ?_
    · exact exec_kind hW9.2 HWF.out HKK.out _ _ rfl rfl rfl
    simp only [Act.put, List.setIfInBounds_toArray, List.set_cons_succ, List.set_cons_zero, List.getElem_toArray, List.getElem_cons_succ, List.getElem_cons_zero]
    refine Y_take (i := 4) (n := 5) (.tuple #[.agg kc.row, .bool false]) rfl (by kernel_rfl) (by kernel_rfl) (by kernel_rfl) (by kernel_rfl) (fun _ _ _ h => h) (by rfl) (fun W9 hW9 => ?_) HSS.out ?_
    · go_simp
    simp only [Act.put, List.setIfInBounds_toArray, List.set_cons_succ, List.set_cons_zero, List.getElem_toArray, List.getElem_cons_succ, List.getElem_cons_zero]
    refine Y_take (i := 5) (n := 4) (.agg kc.row) rfl (by kernel_rfl) (by kernel_rfl) (by kernel_rfl) (by kernel_rfl) (fun _ _ _ h => h) (by rfl) (fun W9 hW9 => ?_) HSS.out ?_
    · go_simp
    simp only [Act.put, List.setIfInBounds_toArray, List.set_cons_succ, List.set_cons_zero, List.getElem_toArray, List.getElem_cons_succ, List.getElem_cons_zero]
    refine Y_take (i := 6) (n := 3) (.bool false) rfl (by kernel_rfl) (by kernel_rfl) (by kernel_rfl) (by kernel_rfl) (fun _ _ _ h => h) (by rfl) (fun W9 hW9 => ?_) HSS.out ?_
    · go_simp
    simp only [Act.put, List.setIfInBounds_toArray, List.set_cons_succ, List.set_cons_zero, List.getElem_toArray, List.getElem_cons_succ, List.getElem_cons_zero]
    refine Y_one (i := 7) (n := 2) (by kernel_rfl) rfl (fun K hK => ?_)
    rw [if_pos (by rfl)]
    go_simp
    have HV := hd (VarR.new w2 60 kc0.row)
    have hb := (Below.refl w2.heap.size w2).alloc (Nat.le_refl _) (.cells kc0.row 60)
    have HSP := hd HSS.out.1
    have HNE := hd (Nat.ne_of_lt HSS.out.2.lt)
    have HPG := hd (Nat.le_refl w2.heap.size)
    have HSS := hd (And.intro (HSP.out.call hb) (HSS.out.2.below hb))
    have HBP := hd hb
    clear hb
    obtain ⟨g, hg⟩ : ∃ g, w2.heap.size = g := ⟨_, rfl⟩
    obtain ⟨W4, hW4⟩ : ∃ W4, w2.alloc (.cells kc0.row 60) = W4 := ⟨_, rfl⟩
    have e4 : w2.alloc (.cells #[.int .i64 0, .nilFunc, .nilFunc] 60) = W4 := hW4
    rw [hW4] at HV HSS HBP
    rw [e4]
    rw [hg] at HV HNE
    have HPG := hd (show w2.heap.size ≤ g by omega)
    rw [hg]
    clear hW4 e4 hg
    refine hK _ _ (fun _ => HSS.out) ?_
    clear hK K
    refine Y_one (i := 8) (n := 1) (by kernel_rfl) rfl (fun K hK => ?_)
    rw [if_pos (by rfl)]
    refine wp_store_any sz_kind HV.out _ _ rfl rfl 0 _ [.int .i64 kc.last, kc.chk, kc.along] rfl rfl rfl rfl (kc_all HK1.out) (Nat.le_of_ble_eq_true rfl) ?_
    intro W5 hv5 ho5
    have HV := hd (show VarR 60 W5 g kc.row from hv5)
    have HSS := hd (And.intro (HSP.out.call (off_below HBP.out ho5 HPG.out)) (KM.off HSS.out.2 ho5 HNE.out))
    clear hv5 ho5 HSP HBP HPG HNE
    refine hK _ _ (fun _ => HSS.out) ?_
    clear hK K
    refine Y_one (i := 9) (n := 0) (by kernel_rfl) rfl (fun K hK => ?_)
    rw [if_pos (by rfl)]
    go_simp
    refine hK _ _ (fun _ => HSS.out) (Y_done (by kernel_rfl) ?_)
    clear hK K
    have HS := hd HSS.out.1
    go_wp2_with fail
    go_ret
    exact ⟨rfl, HS.out.below⟩
  · rw [if_pos (by rfl)]
    go_simp
    have HV := hd (VarR.new W0.drew 60 kc0.row)
    have hb := (Below.refl W0.drew.heap.size W0.drew).alloc (Nat.le_refl _) (.cells kc0.row 60)
    have HSP := hd HSS.out
    have HSS := hd (HSP.out.call hb)
    have HBP := hd hb
    clear hb
    obtain ⟨g, hg⟩ : ∃ g, W0.heap.size = g := ⟨_, rfl⟩
    obtain ⟨W4, hW4⟩ : ∃ W4, W0.drew.alloc (.cells kc0.row 60) = W4 := ⟨_, rfl⟩
    have e4 : (W0.alloc (.cells #[.int .i64 0, .nilFunc, .nilFunc] 60)).drew = W4 := hW4
    rw [hW4] at HV HSS HBP
    rw [e4]
    have HV := hd (show VarR 60 W4 W0.heap.size kc0.row from HV.out)
    rw [hg] at HV
    have HPG := hd (show W0.drew.heap.size ≤ g from Nat.le_of_eq hg)
    rw [hg]
    clear hW4 e4 hg
    refine hK _ _ (fun _ => HSS.out) ?_
    clear hK K
    refine Y_one (i := 0) (n := 6) (by kernel_rfl) rfl (fun K hK => ?_)
    rw [if_pos (by rfl)]
    go_simp
    go_at_call 24
    refine (kinds_any _).mono ?_
    rintro e w2 ⟨mb, rfl, hkm, hmb, b9⟩
    have HNE := hd (show mb ≠ g by have := HV.out.lt; omega)
    have HKW := hd hkm
    have HV := hd (HV.out.keep b9)
    have HSS := hd (HSS.out.call b9)
    have HBP := hd (HBP.out.trans (b9.mono HBP.out.size))
    clear b9 hkm hmb
    refine hK _ _ (fun _ => HSS.out) ?_
    clear hK K
    refine Y_mono (S' := fun W' => S2 w c d n r W' ∧ KindsAt W' mb) (fun _ h => h.1) ?_
    have HSS := hd (And.intro HSS.out HKW.out)
    refine Y_take (i := 3) (n := 5) (.tuple #[.agg kc.row, .bool false]) rfl (by kernel_rfl) (by kernel_rfl) (by kernel_rfl) (by kernel_rfl) (fun _ _ _ h => h) (by rfl) (fun W9 hW9 => ?_) HSS.out ?_
    · exact exec_kind hW9.2 HWF.out HKK.out _ _ rfl rfl rfl
    simp only [Act.put, List.setIfInBounds_toArray, List.set_cons_succ, List.set_cons_zero, List.getElem_toArray, List.getElem_cons_succ, List.getElem_cons_zero]
    refine Y_take (i := 4) (n := 4) (.tuple #[.agg kc.row, .bool false]) rfl (by kernel_rfl) (by kernel_rfl) (by kernel_rfl) (by kernel_rfl) (fun _ _ _ h => h) (by rfl) (fun W9 hW9 => ?_) HSS.out ?_
    · go_simp
    simp only [Act.put, List.setIfInBounds_toArray, List.set_cons_succ, List.set_cons_zero, List.getElem_toArray, List.getElem_cons_succ, List.getElem_cons_zero]
    refine Y_take (i := 5) (n := 3) (.agg kc.row) rfl (by kernel_rfl) (by kernel_rfl) (by kernel_rfl) (by kernel_rfl) (fun _ _ _ h => h) (by rfl) (fun W9 hW9 => ?_) HSS.out ?_
    · go_simp
    simp only [Act.put, List.setIfInBounds_toArray, List.set_cons_succ, List.set_cons_zero, List.getElem_toArray, List.getElem_cons_succ, List.getElem_cons_zero]
    refine Y_take (i := 6) (n := 2) (.bool false) rfl (by kernel_rfl) (by kernel_rfl) (by kernel_rfl) (by kernel_rfl) (fun _ _ _ h => h) (by rfl) (fun W9 hW9 => ?_) HSS.out ?_
    · go_simp
    simp only [Act.put, List.setIfInBounds_toArray, List.set_cons_succ, List.set_cons_zero, List.getElem_toArray, List.getElem_cons_succ, List.getElem_cons_zero]
    refine Y_one (i := 8) (n := 1) (by kernel_rfl) rfl (fun K hK => ?_)
    rw [if_pos (by rfl)]
    refine wp_store_any sz_kind HV.out _ _ rfl rfl 0 _ [.int .i64 kc.last, kc.chk, kc.along] rfl rfl rfl rfl (kc_all HK1.out) (Nat.le_of_ble_eq_true rfl) ?_
    intro W5 hv5 ho5
    have HV := hd (show VarR 60 W5 g kc.row from hv5)
    have HSS := hd (And.intro (HSP.out.call (off_below HBP.out ho5 HPG.out)) (KM.off HSS.out.2 ho5 HNE.out))
    clear hv5 ho5 HSP HBP HPG HNE
    refine hK _ _ (fun _ => HSS.out) ?_
    clear hK K
    refine Y_one (i := 9) (n := 0) (by kernel_rfl) rfl (fun K hK => ?_)
    rw [if_pos (by rfl)]
    go_simp
    refine hK _ _ (fun _ => HSS.out) (Y_done (by kernel_rfl) ?_)
    clear hK K
    have HS := hd HSS.out.1
    go_wp2_with fail
    go_ret
    exact ⟨rfl, HS.out.below⟩

/-- What Check answers of a kind that is. -/
def chkG (aff last : Int) (st : Bool) (G : Int) : Int := if aff < 0 ∨ last < aff ∨ st = true then 1 else G
set_option maxRecDepth 100000 in
set_option maxHeartbeats 8000000 in
theorem hchk_1 {w : World} {c : NC} {d : RC} {n : NT} {r : RefP} {kc : KC} {fid : FuncId} {G E : Int} {st : Bool} (hn : HasN w c n) (hr : RkA w d r) (ht : tinyR r) (hkk : kindK d.kind = (kc, true)) (hfn : kc.chk = .func (.func fid) #[] #[]) (hent : ∀ args w, (callFunc fid args).run Try.prog w = .ok (.enter fid args) w)
    (hst : ∀ W, RkA W d r → Calls Try.prog 25 #[.agg d.row] W (Still (.bool st) W)) (hcl : ∀ W, HasN W c n → RkA W d r → Calls Try.prog fid #[.agg c.row, .agg d.row] W (Still (.int .i64 G) W)) (he : chkG d.aff kc.last st G = E) : Calls Try.prog 12 #[.agg c.row, .agg d.row] w (Still (.int .i64 E) w) := by
  have hE := True.intro
  have HFN := hd hfn
  have HST := hd hst
  have HCL := hd hcl
  have HEE := hd he
  clear hfn hst hcl he
  have HKK := hd hkk
  have HWF := hd hr.hkw
  have HK1 := hd (kind_one d.kind)
  rw [hkk] at HK1
  clear hkk
  obtain ⟨W0, hW, hst⟩ := s2_vars hn hr
  have HW := hd hW
  have HS := hd hst
  have HT := hd ht
  have HE := hd hE
  clear hW hst hn hr ht hE
  go_enter Try.func12, Try.ntmps12
  go_upto_region 1 with fail
  rw [HW.out]
  refine Y_start (S := fun W' => S2 w c d n r W') (z := fun _ => false) (by kernel_rfl) ?_
  have HSS := hd (HS.out.call (Below.refl W0.heap.size W0).drew)
  refine Y_take (i := 1) (n := 9) (.pointer (some ⟨w.heap.size + 1, 1, none⟩)) rfl (by kernel_rfl) (by kernel_rfl) (by kernel_rfl) (by kernel_rfl) (fun _ _ _ h => h) (by rfl) (fun W9 hW9 => ?_) HSS.out ?_
  · go_simp
  simp only [Act.put, List.setIfInBounds_toArray, List.set_cons_succ, List.set_cons_zero, List.getElem_toArray, List.getElem_cons_succ, List.getElem_cons_zero]
  refine Y_take (i := 2) (n := 8) (.int .i64 d.kind) rfl (by kernel_rfl) (by kernel_rfl) (by kernel_rfl) (by kernel_rfl) (fun _ _ _ h => h) (by rfl) (fun W9 hW9 => ?_) HSS.out ?_
  · have h9 : W9.cell? ⟨w.heap.size + 1, 1, none⟩ = some (.int .i64 d.kind) := hW9.v2.cell 1 _ rfl
    go_simp
  simp only [Act.put, List.setIfInBounds_toArray, List.set_cons_succ, List.set_cons_zero, List.getElem_toArray, List.getElem_cons_succ, List.getElem_cons_zero]
  refine Y_two (i := 0) (j := 7) (n := 7) (by kernel_rfl) rfl rfl (fun K hK => ?_) (fun K hK => ?_)
  · rw [if_pos (by rfl)]
    go_simp
    go_at_call 24
    refine (kinds_any _).mono ?_
    rintro e w2 ⟨mb, rfl, hkm, _, b9⟩
    have HKW := hd hkm
    have HSS := hd (HSS.out.call b9)
    clear b9 hkm
    refine hK _ _ (fun _ => HSS.out) ?_
    clear hK K
    refine Y_mono (S' := fun W' => S2 w c d n r W' ∧ KindsAt W' mb) (fun _ h => h.1) ?_
    have HSS := hd (And.intro HSS.out HKW.out)
    refine Y_take (i := 3) (n := 6) (.tuple #[.agg kc.row, .bool true]) rfl (by kernel_rfl) (by kernel_rfl) (by kernel_rfl) (by kernel_rfl) (fun _ _ _ h => h) (by rfl) (fun W9 hW9 => ?_) HSS.out ?_
    · exact exec_kind hW9.2 HWF.out HKK.out _ _ rfl rfl rfl
    simp only [Act.put, List.setIfInBounds_toArray, List.set_cons_succ, List.set_cons_zero, List.getElem_toArray, List.getElem_cons_succ, List.getElem_cons_zero]
    refine Y_take (i := 4) (n := 5) (.tuple #[.agg kc.row, .bool true]) rfl (by kernel_rfl) (by kernel_rfl) (by kernel_rfl) (by kernel_rfl) (fun _ _ _ h => h) (by rfl) (fun W9 hW9 => ?_) HSS.out ?_
    · go_simp
    simp only [Act.put, List.setIfInBounds_toArray, List.set_cons_succ, List.set_cons_zero, List.getElem_toArray, List.getElem_cons_succ, List.getElem_cons_zero]
    refine Y_take (i := 5) (n := 4) (.agg kc.row) rfl (by kernel_rfl) (by kernel_rfl) (by kernel_rfl) (by kernel_rfl) (fun _ _ _ h => h) (by rfl) (fun W9 hW9 => ?_) HSS.out ?_
    · go_simp
    simp only [Act.put, List.setIfInBounds_toArray, List.set_cons_succ, List.set_cons_zero, List.getElem_toArray, List.getElem_cons_succ, List.getElem_cons_zero]
    refine Y_take (i := 6) (n := 3) (.bool true) rfl (by kernel_rfl) (by kernel_rfl) (by kernel_rfl) (by kernel_rfl) (fun _ _ _ h => h) (by rfl) (fun W9 hW9 => ?_) HSS.out ?_
    · go_simp
    simp only [Act.put, List.setIfInBounds_toArray, List.set_cons_succ, List.set_cons_zero, List.getElem_toArray, List.getElem_cons_succ, List.getElem_cons_zero]
    refine Y_one (i := 7) (n := 2) (by kernel_rfl) rfl (fun K hK => ?_)
    rw [if_pos (by rfl)]
    go_simp
    have HV := hd (VarR.new w2 60 kc0.row)
    have hb := (Below.refl w2.heap.size w2).alloc (Nat.le_refl _) (.cells kc0.row 60)
    have HSP := hd HSS.out.1
    have HNE := hd (Nat.ne_of_lt HSS.out.2.lt)
    have HPG := hd (Nat.le_refl w2.heap.size)
    have HSS := hd (And.intro (HSP.out.call hb) (HSS.out.2.below hb))
    have HBP := hd hb
    clear hb
    obtain ⟨g, hg⟩ : ∃ g, w2.heap.size = g := ⟨_, rfl⟩
    obtain ⟨W4, hW4⟩ : ∃ W4, w2.alloc (.cells kc0.row 60) = W4 := ⟨_, rfl⟩
    have e4 : w2.alloc (.cells #[.int .i64 0, .nilFunc, .nilFunc] 60) = W4 := hW4
    rw [hW4] at HV HSS HBP
    rw [e4]
    rw [hg] at HV HNE
    have HPG := hd (show w2.heap.size ≤ g by omega)
    rw [hg]
    clear hW4 e4 hg
    refine hK _ _ (fun _ => HSS.out) ?_
    clear hK K
    refine Y_one (i := 8) (n := 1) (by kernel_rfl) rfl (fun K hK => ?_)
    rw [if_pos (by rfl)]
    refine wp_store_any sz_kind HV.out _ _ rfl rfl 0 _ [.int .i64 kc.last, kc.chk, kc.along] rfl rfl rfl rfl (kc_all HK1.out) (Nat.le_of_ble_eq_true rfl) ?_
    intro W5 hv5 ho5
    have HV := hd (show VarR 60 W5 g kc.row from hv5)
    have HSS := hd (And.intro (HSP.out.call (off_below HBP.out ho5 HPG.out)) (KM.off HSS.out.2 ho5 HNE.out))
    clear hv5 ho5 HSP HBP HPG HNE
    refine hK _ _ (fun _ => HSS.out) ?_
    clear hK K
    refine Y_one (i := 9) (n := 0) (by kernel_rfl) rfl (fun K hK => ?_)
    rw [if_pos (by rfl)]
    go_simp
    refine hK _ _ (fun _ => HSS.out) (Y_done (by kernel_rfl) ?_)
    clear hK K
    have HS := hd HSS.out.1
    obtain ⟨⟨_, _, u2, _⟩, _⟩ := HS.out.v2.eleven
    have g0 : W5.cell? ⟨g, 0, none⟩ = some (.int .i64 kc.last) := HV.out.cell 0 _ rfl
    have g1 : W5.cell? ⟨g, 1, none⟩ = some (.func (.func fid) #[] #[]) := (HV.out.cell 1 _ rfl).trans (congrArg some HFN.out)
    go_wp2_with (first
      | ((with_reducible refine gd_loadg (ty := 34) (x := .tmp 3) ?_); refine wpList_load_rowg rowT_ref HS.out.v2 rfl _ rfl (by rfl) rfl ?_)
      | (go_at_call 25; refine Calls.mono (HST.out _ HS.out.hr) ?_; rintro e w6 ⟨rfl, b9⟩; have HS := hd (HS.out.call b9); have HV := hd (HV.out.keep b9); clear b9 g1 g0 u2; have g1 : w6.cell? ⟨g, 1, none⟩ = some (.func (.func fid) #[] #[]) := (HV.out.cell 1 _ rfl).trans (congrArg some HFN.out))
      | ((with_reducible refine gd_load (ty := 26) (x := .tmp 2) ?_); refine wpList_load_row rowT_node HS.out.v1 rfl _ rfl rfl rfl ?_)
      | ((with_reducible refine gd_load (ty := 34) (x := .tmp 3) ?_); refine wpList_load_row rowT_ref HS.out.v2 rfl _ rfl rfl rfl ?_; have _g := HS)
      | (have _g := w6; refine (HCL.out _ HS.out.hn HS.out.hr).mono ?_; rintro e w7 ⟨rfl, b9⟩; have HS := hd (HS.out.call b9); clear b9))
    all_goals (go_ret; refine ⟨ret_int ?_, HS.out.below⟩)
    all_goals (rw [← HEE.out]; unfold chkG)
    all_goals first
      | (simp_all; done)
      | (simp_all; omega)
      | (rw [if_pos (.inr (.inr rfl))])
      | (rename_i h3; rw [if_pos (or_assoc.1 h3)])
  · rw [if_pos (by rfl)]
    go_simp
    have HV := hd (VarR.new W0.drew 60 kc0.row)
    have hb := (Below.refl W0.drew.heap.size W0.drew).alloc (Nat.le_refl _) (.cells kc0.row 60)
    have HSP := hd HSS.out
    have HSS := hd (HSP.out.call hb)
    have HBP := hd hb
    clear hb
    obtain ⟨g, hg⟩ : ∃ g, W0.heap.size = g := ⟨_, rfl⟩
    obtain ⟨W4, hW4⟩ : ∃ W4, W0.drew.alloc (.cells kc0.row 60) = W4 := ⟨_, rfl⟩
    have e4 : (W0.alloc (.cells #[.int .i64 0, .nilFunc, .nilFunc] 60)).drew = W4 := hW4
    rw [hW4] at HV HSS HBP
    rw [e4]
    have HV := hd (show VarR 60 W4 W0.heap.size kc0.row from HV.out)
    rw [hg] at HV
    have HPG := hd (show W0.drew.heap.size ≤ g from Nat.le_of_eq hg)
    rw [hg]
    clear hW4 e4 hg
    refine hK _ _ (fun _ => HSS.out) ?_
    clear hK K
    refine Y_one (i := 0) (n := 6) (by kernel_rfl) rfl (fun K hK => ?_)
    rw [if_pos (by rfl)]
    go_simp
    go_at_call 24
    refine (kinds_any _).mono ?_
    rintro e w2 ⟨mb, rfl, hkm, hmb, b9⟩
    have HNE := hd (show mb ≠ g by have := HV.out.lt; omega)
    have HKW := hd hkm
    have HV := hd (HV.out.keep b9)
    have HSS := hd (HSS.out.call b9)
    have HBP := hd (HBP.out.trans (b9.mono HBP.out.size))
    clear b9 hkm hmb
    refine hK _ _ (fun _ => HSS.out) ?_
    clear hK K
    refine Y_mono (S' := fun W' => S2 w c d n r W' ∧ KindsAt W' mb) (fun _ h => h.1) ?_
    have HSS := hd (And.intro HSS.out HKW.out)
    refine Y_take (i := 3) (n := 5) (.tuple #[.agg kc.row, .bool true]) rfl (by kernel_rfl) (by kernel_rfl) (by kernel_rfl) (by kernel_rfl) (fun _ _ _ h => h) (by rfl) (fun W9 hW9 => ?_) HSS.out ?_
    · exact exec_kind hW9.2 HWF.out HKK.out _ _ rfl rfl rfl
    simp only [Act.put, List.setIfInBounds_toArray, List.set_cons_succ, List.set_cons_zero, List.getElem_toArray, List.getElem_cons_succ, List.getElem_cons_zero]
    refine Y_take (i := 4) (n := 4) (.tuple #[.agg kc.row, .bool true]) rfl (by kernel_rfl) (by kernel_rfl) (by kernel_rfl) (by kernel_rfl) (fun _ _ _ h => h) (by rfl) (fun W9 hW9 => ?_) HSS.out ?_
    · go_simp
    simp only [Act.put, List.setIfInBounds_toArray, List.set_cons_succ, List.set_cons_zero, List.getElem_toArray, List.getElem_cons_succ, List.getElem_cons_zero]
    refine Y_take (i := 5) (n := 3) (.agg kc.row) rfl (by kernel_rfl) (by kernel_rfl) (by kernel_rfl) (by kernel_rfl) (fun _ _ _ h => h) (by rfl) (fun W9 hW9 => ?_) HSS.out ?_
    · go_simp
    simp only [Act.put, List.setIfInBounds_toArray, List.set_cons_succ, List.set_cons_zero, List.getElem_toArray, List.getElem_cons_succ, List.getElem_cons_zero]
    refine Y_take (i := 6) (n := 2) (.bool true) rfl (by kernel_rfl) (by kernel_rfl) (by kernel_rfl) (by kernel_rfl) (fun _ _ _ h => h) (by rfl) (fun W9 hW9 => ?_) HSS.out ?_
    · go_simp
    simp only [Act.put, List.setIfInBounds_toArray, List.set_cons_succ, List.set_cons_zero, List.getElem_toArray, List.getElem_cons_succ, List.getElem_cons_zero]
    refine Y_one (i := 8) (n := 1) (by kernel_rfl) rfl (fun K hK => ?_)
    rw [if_pos (by rfl)]
    refine wp_store_any sz_kind HV.out _ _ rfl rfl 0 _ [.int .i64 kc.last, kc.chk, kc.along] rfl rfl rfl rfl (kc_all HK1.out) (Nat.le_of_ble_eq_true rfl) ?_
    intro W5 hv5 ho5
    have HV := hd (show VarR 60 W5 g kc.row from hv5)
    have HSS := hd (And.intro (HSP.out.call (off_below HBP.out ho5 HPG.out)) (KM.off HSS.out.2 ho5 HNE.out))
    clear hv5 ho5 HSP HBP HPG HNE
    refine hK _ _ (fun _ => HSS.out) ?_
    clear hK K
    refine Y_one (i := 9) (n := 0) (by kernel_rfl) rfl (fun K hK => ?_)
    rw [if_pos (by rfl)]
    go_simp
    refine hK _ _ (fun _ => HSS.out) (Y_done (by kernel_rfl) ?_)
    clear hK K
    have HS := hd HSS.out.1
    obtain ⟨⟨_, _, u2, _⟩, _⟩ := HS.out.v2.eleven
    have g0 : W5.cell? ⟨g, 0, none⟩ = some (.int .i64 kc.last) := HV.out.cell 0 _ rfl
    have g1 : W5.cell? ⟨g, 1, none⟩ = some (.func (.func fid) #[] #[]) := (HV.out.cell 1 _ rfl).trans (congrArg some HFN.out)
    go_wp2_with (first
      | ((with_reducible refine gd_loadg (ty := 34) (x := .tmp 3) ?_); refine wpList_load_rowg rowT_ref HS.out.v2 rfl _ rfl (by rfl) rfl ?_)
      | (go_at_call 25; refine Calls.mono (HST.out _ HS.out.hr) ?_; rintro e w6 ⟨rfl, b9⟩; have HS := hd (HS.out.call b9); have HV := hd (HV.out.keep b9); clear b9 g1 g0 u2; have g1 : w6.cell? ⟨g, 1, none⟩ = some (.func (.func fid) #[] #[]) := (HV.out.cell 1 _ rfl).trans (congrArg some HFN.out))
      | ((with_reducible refine gd_load (ty := 26) (x := .tmp 2) ?_); refine wpList_load_row rowT_node HS.out.v1 rfl _ rfl rfl rfl ?_)
      | ((with_reducible refine gd_load (ty := 34) (x := .tmp 3) ?_); refine wpList_load_row rowT_ref HS.out.v2 rfl _ rfl rfl rfl ?_; have _g := HS)
      | (have _g := w6; refine (HCL.out _ HS.out.hn HS.out.hr).mono ?_; rintro e w7 ⟨rfl, b9⟩; have HS := hd (HS.out.call b9); clear b9))
    all_goals (go_ret; refine ⟨ret_int ?_, HS.out.below⟩)
    all_goals (rw [← HEE.out]; unfold chkG)
    all_goals first
      | (simp_all; done)
      | (simp_all; omega)
      | (rw [if_pos (.inr (.inr rfl))])
      | (rename_i h3; rw [if_pos (or_assoc.1 h3)])

set_option maxRecDepth 4000 in
theorem chk_kind {n : NT} {d : RC} {w : World} {r : RefP} (hr : RkA w d r) (h1 : d.kind ≠ 1) (h2 : d.kind ≠ 2) (h3 : d.kind ≠ 3) : chkR n r = 1 := by rw [chkR, hr.hk, if_neg h1, if_neg h2, if_neg h3]

end Go.Proofs.Ytmglnjmnabjjgaa

namespace Go.Proofs.Ytmglnjmnabjjgaa
open Go.RowKit

/-- Check, of refs whose paths are not longer than 1000. -/
theorem hcheck_t {w : World} {c : NC} {d : RC} {n : NT} {r : RefP} {E : Int} (hn : HasN w c n) (hr : RkA w d r) (hf : tinyR r) (hE : chkR n r = E) : Calls Try.prog 12 #[.agg c.row, .agg d.row] w (Still (.int .i64 E) w) := by
  by_cases h1 : d.kind = 1
  · refine hchk_1 (kc := kc1) (fid := 36) (st := strayB false true true d.np (zP r.q) (zP r.a && zP r.f)) (G := (getE n r.p).2) hn hr hf (by rw [h1]; rfl) rfl (fun _ _ => rfl) (fun W g => hstray_any g hf (by rw [h1]; rfl) (by rw [h1]; rfl) (by rw [h1]; rfl) rfl rfl) (fun W g1 g2 => hkind1 g1 g2 hf rfl) ?_
    rw [← hE, chkR, hr.hk, if_pos h1, hr.ha]
    unfold chkG strayB
    have e0 : kc1.last = 0 := rfl
    rw [e0]
    cases zP r.q <;> cases (zP r.a && zP r.f) <;> simp <;> omega
  by_cases h2 : d.kind = 2
  · refine hchk_1 (kc := kc2) (fid := 40) (st := strayB true false true d.np (zP r.q) (zP r.a && zP r.f)) (G := chkP n r.q) hn hr hf (by rw [h2]; rfl) rfl (fun _ _ => rfl) (fun W g => hstray_any g hf (by rw [h2]; rfl) (by rw [h2]; rfl) (by rw [h2]; rfl) rfl rfl) (fun W g1 g2 => hkind3 g1 g2 hf rfl) ?_
    rw [← hE, chkR, hr.hk, if_neg h1, if_pos h2, hr.ha, hr.hp.len]
    unfold chkG strayB
    have e0 : kc2.last = 2 := rfl
    rw [e0]
    cases zP r.q <;> cases (zP r.a && zP r.f) <;> simp <;> omega
  by_cases h3 : d.kind = 3
  · refine hchk_1 (kc := kc3) (fid := 44) (st := strayB true true false d.np (zP r.q) (zP r.a && zP r.f)) (G := if chkP n r.a ≠ 0 then chkP n r.a else chkP n r.f) hn hr hf (by rw [h3]; rfl) rfl (fun _ _ => rfl) (fun W g => hstray_any g hf (by rw [h3]; rfl) (by rw [h3]; rfl) (by rw [h3]; rfl) rfl rfl) (fun W g1 g2 => hkind5 g1 g2 hf rfl rfl rfl) ?_
    rw [← hE, chkR, hr.hk, if_neg h1, if_neg h2, if_pos h3, hr.ha, hr.hp.len]
    unfold chkG strayB
    have e0 : kc3.last = 4 := rfl
    rw [e0]
    generalize (if chkP n r.a ≠ 0 then chkP n r.a else chkP n r.f) = G
    cases zP r.q <;> cases (zP r.a && zP r.f) <;> simp <;> omega
  · rw [← hE, chk_kind hr h1 h2 h3]
    exact hchk_0 (kc := kc0) hn hr hf (by unfold kindK; rw [if_neg h1, if_neg h2, if_neg h3])
set_option maxRecDepth 4000 in
theorem hchk_r {w : World} {c : NC} {d : RC} {n : NT} {r : RefP} {E : Int} (hn : HasN w c n) (hr : RkA w d r) (hf : fewR r = true) (hE : chkR n r = E) : Calls Try.prog 12 #[.agg c.row, .agg d.row] w (Still (.int .i64 E) w) := hcheck_t hn hr (tiny_few hf) hE

end Go.Proofs.Ytmglnjmnabjjgaa

namespace Go.Proofs.Ytmglnjmnabjjgaa
open Go.RowKit

/-- What find answers. -/
def Fnd (id : Int) (us : List RefP) (i : Int) : Prop := (i = -1 ∧ ∀ (j : Nat) (s : RefP), us[j]? = some s → s.id ≠ id) ∨ ∃ k : Nat, i = k ∧ k < us.length ∧ firstR id us k
def NewFnd (id : Int) (us : List RefP) (w : World) (e : Ending) (w' : World) : Prop := ∃ i, e = .returned (.int .i64 i) ∧ Fnd id us i ∧ Below w.heap.size w w'
set_option maxRecDepth 100000 in
set_option maxHeartbeats 2000000 in
theorem hfind1_any {w : World} {d : RC} {g : Nat} {id : Int} (hg : g < w.heap.size) (h : w.cell? ⟨g, 0, none⟩ = some (.int .i64 id)) : Calls Try.prog 52 #[.agg d.row, .pointer (some ⟨g, 0, none⟩)] w (Still (.bool (d.id == id)) w) := by
  obtain ⟨W0, hW⟩ : ∃ W0, w.alloc (.cells d.row 34) = W0 := ⟨_, rfl⟩
  have hv := (ref_var w d).1
  have hb := (ref_var w d).2
  rw [hW] at hv hb
  have c0 := (hb.cell (p := ⟨g, 0, none⟩) hg).trans h
  obtain ⟨⟨u0, _⟩, _⟩ := hv.eleven
  have HW := hd hW
  have HB := hd hb
  clear hW hb hv h
  go_enter Try.func52, Try.ntmps52
  go_upto_region 1 with fail
  rw [HW.out]
  go_wp2
  go_ret
  exact ⟨rfl, HB.out⟩

set_option maxRecDepth 100000 in
set_option maxHeartbeats 4000000 in
theorem hindex_any {w : World} {A : Option Addr} {cs : List RC} {us : List RefP} {n cap g : Nat} {id : Int} (h : LR w A cs us) (hn : us.length = n) (hl : n ≤ 10000) (hg : g < w.heap.size) (h0 : w.cell? ⟨g, 0, none⟩ = some (.int .i64 id)) : Calls Try.prog 51 #[.slice A n cap, .func (.func 52) #[] #[.pointer (some ⟨g, 0, none⟩)]] w (NewFnd id us w) := by
  have HL := hd h
  have HN := hd hn
  have H0 := hd h0
  clear h hn h0
  go_enter Try.func51, Try.ntmps51
  go_wp2_with fail
  go_loopw [8] (fun i wr => ∃ k : Nat, k ≤ n ∧ i = .int .i64 k ∧ Hid (∀ (j : Nat) (a : RefP), j < k → us[j]? = some a → a.id ≠ id) ∧ Hid (Below w.heap.size w wr)) (fun i _ => n - (intOf i).toNat)
  case atStart => exact ⟨0, Nat.zero_le _, rfl, hd (fun j a hj => absurd hj (Nat.not_lt_zero _)), hd (Below.refl _ _)⟩
  case round =>
    obtain ⟨k, hk1, rfl, HA, HB⟩ := hrel
    by_cases hlt : k < n
    · obtain ⟨b, o, c, a, rfl, hb, hc, ha, hok, hrg⟩ := (HL.out.later HB.out).at_ (k := k) (by rw [HN.out]; exact hlt)
      have HR := hd hrg
      have HAk := hd ha
      have HI := hd hok.hid
      have HC := hd (hfind1_any (d := c) (id := id) (Nat.lt_of_lt_of_le hg HB.out.size) ((HB.out.cell (p := ⟨g, 0, none⟩) hg).trans H0.out))
      clear hb hc ha hok hrg
      by_cases hi : a.id = id
      · have HE := hd (show Fnd id us k from .inr ⟨k, rfl, by rw [HN.out]; exact hlt, ⟨a, HAk.out, hi⟩, HA.out⟩)
        have e1 : (c.id == id) = true := by rw [← HI.out]; simpa using hi
        rw [e1] at HC
        clear hi HA e1
        go_wp2_with (first
          | ((with_reducible refine gd_load (ty := 34) (x := .tmp 14) ?_); refine wpList_load_ref HR.out _ rfl rfl rfl ?_)
          | (go_at_call 52; refine HC.out.mono ?_; rintro e w1 ⟨rfl, b9⟩; have HB := hd (step_b HB.out b9); clear b9))
        go_ret
        exact ⟨_, rfl, HE.out, HB.out⟩
      · have HA2 := hd (firstR_step HA.out HAk.out hi)
        have e1 : (c.id == id) = false := by rw [← HI.out]; simpa using hi
        rw [e1] at HC
        clear hi HA e1
        go_wp2_with (first
          | ((with_reducible refine gd_load (ty := 34) (x := .tmp 14) ?_); refine wpList_load_ref HR.out _ rfl rfl rfl ?_)
          | (go_at_call 52; refine HC.out.mono ?_; rintro e w1 ⟨rfl, b9⟩; have HB := hd (step_b HB.out b9); clear b9))
        go_roundw
        case rel => exact ⟨k + 1, by omega, by go_num, HA2, HB⟩
        case measure => simp [intOf]; omega
    · obtain rfl : k = n := by omega
      have HE := hd (show Fnd id us (-1) from .inl ⟨rfl, fun j s hs => HA.out j s (by rw [← HN.out]; exact (List.getElem?_eq_some_iff.1 hs).1) hs⟩)
      clear HA hk1 hlt
      go_wp2_with fail
      go_ret
      exact ⟨_, rfl, HE.out, HB.out⟩

set_option maxRecDepth 100000 in
set_option maxHeartbeats 2000000 in
theorem hfnd_any {w : World} {A : Option Addr} {cs : List RC} {us : List RefP} {n cap : Nat} {id : Int} (h : LR w A cs us) (hn : us.length = n) (hl : n ≤ 10000) : Calls Try.prog 30 #[.slice A n cap, .int .i64 id] w (NewFnd id us w) := by
  have hb : Below w.heap.size w (w.alloc (.cells #[.int .i64 id] 3)) := (Below.refl _ _).alloc (Nat.le_refl _) _
  have HC := hd (hindex_any (cap := cap) (h.later hb) hn hl (g := w.heap.size) (id := id) (by simp) (by rw [World.cell?_alloc_at _ _ _ _ rfl]; rfl))
  have HB := hd hb
  clear h hn hb
  go_enter Try.func30, Try.ntmps30
  go_wp2_with (go_at_call 51; refine HC.out.mono ?_; rintro e w1 ⟨i, rfl, hi, b9⟩; have HI := hd hi; have HB := hd (step_b HB.out b9); clear hi b9)
  go_ret
  exact ⟨i, rfl, HI.out, HB.out⟩

end Go.Proofs.Ytmglnjmnabjjgaa
