/- The document's wraps. -/
import Derived.Test.YtegaapeaeffgoaaARNamesWC
import Derived.Test.YtegaapeaeffgoaaJANames
import Derived.Test.YtegaapeaeffgoaaJARules
import Derived.Test.YtegaapeaeffgoaaARRuleWC
import Derived.Test.YtegaapeaeffgoaaJAForm2
import Derived.Test.YtegaapeaeffgoaaJAFormed2
namespace Go.Proofs.Ytegaapeaeffgoaa
open Go.RowKit Go.Maps Go.WideMaps Go.Sort

set_option maxRecDepth 100000 in
theorem run_rule_1 (c : RuC) (W : World) : (Instr.field 27 (.agg c.row) 1).run Try.prog W = .ok (.agg #[.int .i64 c.td, .string c.tt]) W := by rfl
set_option maxRecDepth 4000 in
/-- Names told, and the empty one, are what is asked of. -/
theorem wraps_all {s : SchT} {r : RuleT} {ts : List Nm} (h : ∀ k, k ∈ ts ↔ k ∈ rawT s ∧ k ≠ noN) : (ts ++ [noN]).all (wrapK s r) = (rawT s ++ [noN]).all (wrapK s r) := by
  rw [Bool.eq_iff_iff, List.all_eq_true, List.all_eq_true]
  constructor
  · intro h1 x hx
    by_cases e : x = noN
    · exact h1 x (by rw [e]; simp)
    · rcases List.mem_append.1 hx with hx | hx
      · exact h1 x (List.mem_append_left _ ((h x).2 ⟨hx, e⟩))
      · exact absurd (List.mem_singleton.1 hx) e
  · intro h1 x hx
    rcases List.mem_append.1 hx with hx | hx
    · exact h1 x (List.mem_append_left _ ((h x).1 hx).1)
    · exact h1 x (List.mem_append_right _ hx)
set_option maxRecDepth 4000 in
theorem all_failsW {α : Type} {l : List α} {p : α → Bool} {x : α} (hx : x ∈ l) (h : p x = false) : l.all p = false := Bool.eq_false_iff.2 fun e => by
  have := List.all_eq_true.1 e x hx
  rw [h] at this
  cases this
set_option maxRecDepth 100000 in
set_option maxHeartbeats 16000000 in
theorem rwraps_any {w : World} {c : ScC} {s : SchT} {d : RuC} {r : RuleT} (h : ScAt w c s) (hr : RuAt w d r) (hby : (s.rules.length + 1) * 112 ≤ 140737488355328) (hl : s.rules.length ≤ 32) (hk : ∀ r ∈ allT s, r.kids.length ≤ 32) (hrk : r.kids.length ≤ 10000) {E : Bool} (hE : wrapsT s r = E) : Calls Try.prog 27 #[.agg c.row, .agg d.row] w (Still (.bool E) w) := by
  obtain ⟨ty, td, tt, od, ot, K, nk, ck, fill, fty⟩ := d
  obtain ⟨W0, hW, hb, v2, v3⟩ := arows2 w 30 27 c.row (RuC.mk ty td tt od ot K nk ck fill fty).row
  have hT : r.text = ⟨td, tt⟩ := hr.htext
  unfold wrapsT wrapL at hE
  rw [hT] at hE
  obtain ⟨G, hG⟩ : ∃ G, (rawT s ++ [noN]).all (wrapK s r) = G := ⟨_, rfl⟩
  rw [hG] at hE
  have HE := hd hE
  have HG := hd hG
  have HS := hd h
  have HR := hd hr
  have HK := hd hk
  have HRU := fun (W : World) (hb : Below w.heap.size w W) (k : Nm) => hd (rruleof_any h hb (by omega) (k := k) rfl)
  have HAC := fun (W : World) (hb : Below w.heap.size w W) (k : Nm) => hd (ract_any (hr.later hb) hrk (k := k) rfl)
  have HKP := fun (W : World) (hb : Below w.heap.size w W) (k : Nm) (B : Bool) (hB : keepsT r k = B) => hd (rkeeps_any (hr.later hb) hrk (k := k) hB)
  have HKQ := fun (W : World) (hb : Below w.heap.size w W) (x : RuC) (q : Nm) (hx : RuAt w x (ruleT s q)) (k : Nm) (B : Bool) (hB : keepsT (ruleT s q) k = B) => hd (rkeeps_any (hx.later hb) (by have := hk _ (ruleT_mem s q); omega) (k := k) hB)
  have HNA := fun (W : World) (hb : Below w.heap.size w W) => hd (rnames_any (h.later hb) hby hl hk)
  have HW := hd hW
  have HB := hd hb
  have V2 := hd v2
  have V3 := hd v3
  clear h hr hby hl hk hrk hE hW hb v2 v3 hT hG
  by_cases h4 : td = 4
  · subst h4
    cases hk1 : keepsT r tt with
    | false =>
      have HX := hd (show false = E by rw [← HE.out, hk1]; rfl)
      have HKC := fun (W : World) (hb : Below w.heap.size w W) => HKP W hb tt false hk1
      clear hk1
      go_enter Try.func27, Try.ntmps27
      go_upto_region 1 with fail
      rw [HW.out]
      go_upto_region 2 with (first
        | ((with_reducible refine gd_load (ty := 24) (x := .tmp 9) ?_); refine wpList_load_at rowT_act (r := #[.int .i64 4, .string tt]) (V3.out.two 1 rfl rfl) rfl _ rfl rfl rfl ?_)
        | ((with_reducible refine gd_store (ty := 24) (x := .tmp 5) ?_); refine wpList_store_new rowT_act (r := #[.int .i64 4, .string tt]) rfl rfl (act_one _ _) _ _ rfl rfl rfl rfl rfl rfl ?_))
      obtain ⟨g5, hg5⟩ : ∃ g5, W0.heap.size = g5 := ⟨_, rfl⟩
      obtain ⟨W5, hW5⟩ : ∃ W5, W0.alloc (.cells #[.int .i64 4, .string tt] 24) = W5 := ⟨_, rfl⟩
      have hb5 : Below W0.heap.size W0 W5 := hW5 ▸ (Below.refl _ _).alloc (Nat.le_refl _) _
      have HB := hd (step_b HB.out hb5)
      have V2 := hd (V2.out.keep hb5)
      have V3 := hd (V3.out.keep hb5)
      have V5 := hd (show VarR 24 W5 g5 #[.int .i64 4, .string tt] by rw [← hW5, ← hg5]; exact VarR.new W0 _ _)
      rw [hW5, hg5]
      clear hb5 hW5 hg5
      have z0 : W5.cell? ⟨g5, 0, none⟩ = some (.int .i64 (4)) := V5.out.cell 0 _ rfl
      have z1 : W5.cell? ⟨g5, 1, none⟩ = some (.string tt) := V5.out.cell 1 _ rfl
      go_wp2_with (first
        | ((with_reducible refine gd_loadg (ty := 27) (x := .tmp 3) ?_); refine wpList_load_rowg rowT_rule V3.out rfl _ rfl (by rfl) rfl ?_)
        | (go_at_call 28; refine (HKC _ HB.out).out.mono ?_; rintro e9 w6 ⟨rfl, b9⟩; clear z0 z1; have HB := hd (step_b HB.out b9); clear b9))
      go_ret
      exact ⟨ret_bool HX.out, HB.out⟩
    | true =>
      have HKC := fun (W : World) (hb : Below w.heap.size w W) => HKP W hb tt true hk1
      cases hk2 : ((ruleT s tt).text.act == 1) with
      | false =>
        have HX := hd (show false = E by rw [← HE.out, hk1, hk2]; rfl)
        have HK2 := hd hk2
        clear hk1 hk2
        go_enter Try.func27, Try.ntmps27
        go_upto_region 1 with fail
        rw [HW.out]
        go_upto_region 2 with (first
          | ((with_reducible refine gd_load (ty := 24) (x := .tmp 9) ?_); refine wpList_load_at rowT_act (r := #[.int .i64 4, .string tt]) (V3.out.two 1 rfl rfl) rfl _ rfl rfl rfl ?_)
          | ((with_reducible refine gd_store (ty := 24) (x := .tmp 5) ?_); refine wpList_store_new rowT_act (r := #[.int .i64 4, .string tt]) rfl rfl (act_one _ _) _ _ rfl rfl rfl rfl rfl rfl ?_))
        obtain ⟨g5, hg5⟩ : ∃ g5, W0.heap.size = g5 := ⟨_, rfl⟩
        obtain ⟨W5, hW5⟩ : ∃ W5, W0.alloc (.cells #[.int .i64 4, .string tt] 24) = W5 := ⟨_, rfl⟩
        have hb5 : Below W0.heap.size W0 W5 := hW5 ▸ (Below.refl _ _).alloc (Nat.le_refl _) _
        have HB := hd (step_b HB.out hb5)
        have V2 := hd (V2.out.keep hb5)
        have V3 := hd (V3.out.keep hb5)
        have V5 := hd (show VarR 24 W5 g5 #[.int .i64 4, .string tt] by rw [← hW5, ← hg5]; exact VarR.new W0 _ _)
        rw [hW5, hg5]
        clear hb5 hW5 hg5
        have z0 : W5.cell? ⟨g5, 0, none⟩ = some (.int .i64 (4)) := V5.out.cell 0 _ rfl
        have z1 : W5.cell? ⟨g5, 1, none⟩ = some (.string tt) := V5.out.cell 1 _ rfl
        go_wp2_with (first
          | ((with_reducible refine gd_loadg (ty := 27) (x := .tmp 3) ?_); refine wpList_load_rowg rowT_rule V3.out rfl _ rfl (by rfl) rfl ?_)
          | ((with_reducible refine gd_loadg (ty := 30) (x := .tmp 2) ?_); refine wpList_load_rowg rowT_sch V2.out rfl _ rfl (by rfl) rfl ?_)
          | (go_at_call 28; refine (HKC _ HB.out).out.mono ?_; rintro e9 w6 ⟨rfl, b9⟩; clear z0 z1; have HB := hd (step_b HB.out b9); have V2 := hd (V2.out.keep b9); have V5 := hd (V5.out.keep b9); have z1 : w6.cell? ⟨g5, 1, none⟩ = some (.string tt) := V5.out.cell 1 _ rfl; clear b9)
          | (go_at_call 48; refine (HRU _ HB.out tt).out.mono ?_; rintro e9 w7 ⟨x, rfl, hx, b9⟩; clear z1; have HB := hd (step_b HB.out b9); have e5 : (x.td == 1) = false := (by rw [← HK2.out, hx.htext]); have hf1 := run_rule_1 x; have hf2 := run_act_0 x.td x.tt; clear b9 hx))
        go_ret
        exact ⟨ret_bool HX.out, HB.out⟩
      | true =>
        have HX := hd (show G = E by rw [← HE.out, hk1, hk2]; rfl)
        have HK2 := hd hk2
        clear hk1 hk2
        go_enter Try.func27, Try.ntmps27
        go_upto_region 1 with fail
        rw [HW.out]
        go_upto_region 2 with (first
          | ((with_reducible refine gd_load (ty := 24) (x := .tmp 9) ?_); refine wpList_load_at rowT_act (r := #[.int .i64 4, .string tt]) (V3.out.two 1 rfl rfl) rfl _ rfl rfl rfl ?_)
          | ((with_reducible refine gd_store (ty := 24) (x := .tmp 5) ?_); refine wpList_store_new rowT_act (r := #[.int .i64 4, .string tt]) rfl rfl (act_one _ _) _ _ rfl rfl rfl rfl rfl rfl ?_))
        obtain ⟨g5, hg5⟩ : ∃ g5, W0.heap.size = g5 := ⟨_, rfl⟩
        obtain ⟨W5, hW5⟩ : ∃ W5, W0.alloc (.cells #[.int .i64 4, .string tt] 24) = W5 := ⟨_, rfl⟩
        have hb5 : Below W0.heap.size W0 W5 := hW5 ▸ (Below.refl _ _).alloc (Nat.le_refl _) _
        have HB := hd (step_b HB.out hb5)
        have V2 := hd (V2.out.keep hb5)
        have V3 := hd (V3.out.keep hb5)
        have V5 := hd (show VarR 24 W5 g5 #[.int .i64 4, .string tt] by rw [← hW5, ← hg5]; exact VarR.new W0 _ _)
        rw [hW5, hg5]
        clear hb5 hW5 hg5
        have z0 : W5.cell? ⟨g5, 0, none⟩ = some (.int .i64 (4)) := V5.out.cell 0 _ rfl
        have z1 : W5.cell? ⟨g5, 1, none⟩ = some (.string tt) := V5.out.cell 1 _ rfl
        go_upto_region 4 with (first
          | ((with_reducible refine gd_loadg (ty := 27) (x := .tmp 3) ?_); refine wpList_load_rowg rowT_rule V3.out rfl _ rfl (by rfl) rfl ?_)
          | ((with_reducible refine gd_loadg (ty := 30) (x := .tmp 2) ?_); refine wpList_load_rowg rowT_sch V2.out rfl _ rfl (by rfl) rfl ?_)
          | (go_at_call 28; refine (HKC _ HB.out).out.mono ?_; rintro e9 w6 ⟨rfl, b9⟩; clear z0 z1; have HB := hd (step_b HB.out b9); have V2 := hd (V2.out.keep b9); have V3 := hd (V3.out.keep b9); have V5 := hd (V5.out.keep b9); have z1 : w6.cell? ⟨g5, 1, none⟩ = some (.string tt) := V5.out.cell 1 _ rfl; clear b9)
          | (go_at_call 48; refine (HRU _ HB.out tt).out.mono ?_; rintro e9 w7 ⟨x, rfl, hx, b9⟩; clear z1; have HB := hd (step_b HB.out b9); have V2 := hd (V2.out.keep b9); have V3 := hd (V3.out.keep b9); have e5 : x.td = 1 := (by have h1 := HK2.out; rw [hx.htext] at h1; simpa using h1); have hf1 := run_rule_1 x; have hf2 := run_act_0 x.td x.tt; rw [e5] at hf1 hf2; clear b9 hx e5))
        clear HKC
        have HBW := hd (Below.refl w7.heap.size w7)
        go_upto_region 5 with (first
          | ((with_reducible refine gd_load (ty := 30) (x := .tmp 2) ?_); refine wpList_load_row rowT_sch V2.out rfl _ rfl rfl rfl ?_)
          | (go_at_call 51; refine (HNA _ HB.out).out.mono ?_; rintro e9 w8 ⟨A, n, cp, ts, rfl, hn3, ho, hts, b9⟩; have HO := hd ho; have HTS := hd (wraps_all (r := r) hts); have HBW := hd b9; clear ho hts b9)
          | (at_builtin; refine wpList_append_GX strG _ rfl (.tmp 31) (.tmp 32) rfl w7.heap.size _ n _ rfl (HO.out.1.alloc _) (some ⟨w8.heap.size, 0, none⟩) 1 1 _ [.string ⟨#[]⟩] rfl rfl (new_cellsV w8 #[.string ⟨#[]⟩] _) (by simp [Value.oneCell']) (by unfold maxLen; omega) (by omega) (by have := HBW.out.size; simp; omega) ?_; intro A3 c3 w9 ho3 hg3 hat3))
        have HO9 := hd (own_more (M := [(⟨#[]⟩ : Nm)]) (k := 1) HO.out.2 rfl rfl ho3)
        have HBW9 := hd (agrown_below (HBW.out.alloc HBW.out.size _) hg3 (fun j hj => (HO.out.1.lt j hj).1))
        have V2 := hd (V2.out.keep HBW9.out)
        have V3 := hd (V3.out.keep HBW9.out)
        have HB := hd (step_b HB.out HBW9.out)
        have HVL := hd (arow_vl HO9.out.1).2
        have HALL := hd (show (ts ++ [(⟨#[]⟩ : Nm)]).all (wrapK s r) = G from HTS.out.trans HG.out)
        have HTL := hd (show (ts ++ [(⟨#[]⟩ : Nm)]).length = n + 1 from HO9.out.2)
        obtain ⟨T, hT⟩ : ∃ T, ts ++ [(⟨#[]⟩ : Nm)] = T := ⟨_, rfl⟩
        rw [hT] at HVL HALL HTL
        clear ho3 hg3 hat3 HO HO9 HTS HBW hT HBW9
        go_wp2_with fail
        go_loopw [35] (fun i wr => ∃ k : Nat, k ≤ n + 1 ∧ i = .int .i64 k ∧ Hid (∀ j, j < k → wrapK s r (strAt T j) = true) ∧ Hid (Below w9.heap.size w9 wr)) (fun i _ => n + 1 - (intOf i).toNat)
        case atStart => exact ⟨0, Nat.zero_le _, rfl, hd (fun j hj => absurd hj (Nat.not_lt_zero _)), hd (Below.refl _ _)⟩
        case round =>
          obtain ⟨k, hk1, rfl, HA, HBx⟩ := hrel
          have V2r := hd (V2.out.keep HBx.out)
          have V3r := hd (V3.out.keep HBx.out)
          have HBr := hd (step_b HB.out HBx.out)
          by_cases hlt : k < n + 1
          · obtain ⟨b, o, hA, hbl, hc⟩ := vl_str (HVL.out.later HBx.out) (k := k) (by rw [HTL.out]; exact hlt)
            subst hA
            have hmem : strAt T k ∈ T := strAt_mem (by rw [HTL.out]; exact hlt)
            obtain ⟨x, hx⟩ : ∃ x, strAt T k = x := ⟨_, rfl⟩
            have HXK := hd hx
            rw [hx] at hc hmem
            obtain ⟨a, ha⟩ : ∃ a, actT r x = a := ⟨_, rfl⟩
            have hac := (HAC _ HBr.out x).out
            rw [ha] at hac
            have hwk : wrapK s r x = (a.act != 4 || (keepsT r a.ty && keepsT (ruleT s a.ty) x)) := by unfold wrapK; rw [ha]
            obtain ⟨an, aty⟩ := a
            have HAX := hd hac
            have HWK := hd (show wrapK s r x = (an != 4 || (keepsT r aty && keepsT (ruleT s aty) x)) from hwk)
            have HMEM := hd hmem
            clear hac hwk ha hbl hmem hx
            by_cases h4 : an = 4
            · subst h4
              cases hk1 : keepsT r aty with
              | false =>
                have HF := hd (show false = E by rw [← HX.out, ← HALL.out]; exact (all_failsW HMEM.out (by rw [HWK.out, hk1]; rfl)).symm)
                have HKC := fun (W : World) (hb : Below w.heap.size w W) => HKP W hb aty false hk1
                clear hk1
                go_upto_region 8 with (first
                  | ((with_reducible refine gd_load (ty := 27) (x := .tmp 3) ?_); refine wpList_load_row rowT_rule V3r.out rfl _ rfl rfl rfl ?_)
                  | (go_at_call 52; refine HAX.out.mono ?_; rintro e9 wa ⟨rfl, b9⟩; have HBr := hd (step_b HBr.out b9); have HBx := hd (step_b HBx.out b9); have V2r := hd (V2r.out.keep b9); have V3r := hd (V3r.out.keep b9); clear b9)
                  | ((with_reducible refine gd_store (ty := 24) (x := .tmp 8) ?_); refine wpList_store_new rowT_act (r := #[.int .i64 (4), .string aty]) rfl rfl (act_one _ _) _ _ rfl rfl rfl rfl rfl rfl ?_))
                obtain ⟨g8, hg8⟩ : ∃ g8, wa.heap.size = g8 := ⟨_, rfl⟩
                obtain ⟨Wb, hWb⟩ : ∃ Wb, wa.alloc (.cells #[.int .i64 (4), .string aty] 24) = Wb := ⟨_, rfl⟩
                have hbb : Below wa.heap.size wa Wb := hWb ▸ (Below.refl _ _).alloc (Nat.le_refl _) _
                have HBr := hd (step_b HBr.out hbb)
                have HBx := hd (step_b HBx.out hbb)
                have V2r := hd (V2r.out.keep hbb)
                have V3r := hd (V3r.out.keep hbb)
                have V8 := hd (show VarR 24 Wb g8 #[.int .i64 (4), .string aty] by rw [← hWb, ← hg8]; exact VarR.new wa _ _)
                rw [hWb, hg8]
                clear hbb hWb hg8
                have q0 : Wb.cell? ⟨g8, 0, none⟩ = some (.int .i64 (4)) := V8.out.cell 0 _ rfl
                have q1 : Wb.cell? ⟨g8, 1, none⟩ = some (.string aty) := V8.out.cell 1 _ rfl
                go_wp2_with (first
                  | ((with_reducible refine gd_loadg (ty := 27) (x := .tmp 3) ?_); refine wpList_load_rowg rowT_rule V3r.out rfl _ rfl (by rfl) rfl ?_)
                  | (go_at_call 28; refine (HKC _ HBr.out).out.mono ?_; rintro e9 wc ⟨rfl, b9⟩; clear q0 q1; have HBr := hd (step_b HBr.out b9); clear b9))
                go_ret
                exact ⟨ret_bool HF.out, HBr.out⟩
              | true =>
                have HKC := fun (W : World) (hb : Below w.heap.size w W) => HKP W hb aty true hk1
                cases hk2 : keepsT (ruleT s aty) x with
                | false =>
                  have HF := hd (show false = E by rw [← HX.out, ← HALL.out]; exact (all_failsW HMEM.out (by rw [HWK.out, hk1, hk2]; rfl)).symm)
                  have HKD := fun (W : World) (hb : Below w.heap.size w W) (q : RuC) (hq : RuAt w q (ruleT s aty)) => HKQ W hb q aty hq x false hk2
                  clear hk1 hk2
                  go_upto_region 8 with (first
                    | ((with_reducible refine gd_load (ty := 27) (x := .tmp 3) ?_); refine wpList_load_row rowT_rule V3r.out rfl _ rfl rfl rfl ?_)
                    | (go_at_call 52; refine HAX.out.mono ?_; rintro e9 wa ⟨rfl, b9⟩; have HBr := hd (step_b HBr.out b9); have HBx := hd (step_b HBx.out b9); have V2r := hd (V2r.out.keep b9); have V3r := hd (V3r.out.keep b9); clear b9)
                    | ((with_reducible refine gd_store (ty := 24) (x := .tmp 8) ?_); refine wpList_store_new rowT_act (r := #[.int .i64 (4), .string aty]) rfl rfl (act_one _ _) _ _ rfl rfl rfl rfl rfl rfl ?_))
                  obtain ⟨g8, hg8⟩ : ∃ g8, wa.heap.size = g8 := ⟨_, rfl⟩
                  obtain ⟨Wb, hWb⟩ : ∃ Wb, wa.alloc (.cells #[.int .i64 (4), .string aty] 24) = Wb := ⟨_, rfl⟩
                  have hbb : Below wa.heap.size wa Wb := hWb ▸ (Below.refl _ _).alloc (Nat.le_refl _) _
                  have HBr := hd (step_b HBr.out hbb)
                  have HBx := hd (step_b HBx.out hbb)
                  have V2r := hd (V2r.out.keep hbb)
                  have V3r := hd (V3r.out.keep hbb)
                  have V8 := hd (show VarR 24 Wb g8 #[.int .i64 (4), .string aty] by rw [← hWb, ← hg8]; exact VarR.new wa _ _)
                  rw [hWb, hg8]
                  clear hbb hWb hg8
                  have q0 : Wb.cell? ⟨g8, 0, none⟩ = some (.int .i64 (4)) := V8.out.cell 0 _ rfl
                  have q1 : Wb.cell? ⟨g8, 1, none⟩ = some (.string aty) := V8.out.cell 1 _ rfl
                  go_wp2_with (first
                    | ((with_reducible refine gd_loadg (ty := 27) (x := .tmp 3) ?_); refine wpList_load_rowg rowT_rule V3r.out rfl _ rfl (by rfl) rfl ?_)
                    | ((with_reducible refine gd_loadg (ty := 30) (x := .tmp 2) ?_); refine wpList_load_rowg rowT_sch V2r.out rfl _ rfl (by rfl) rfl ?_)
                    | (go_at_call 28; have h9 := HKC; clear HKC; refine (h9 _ HBr.out).out.mono ?_; clear h9; rintro e9 wc ⟨rfl, b9⟩; clear q0 q1; have HBr := hd (step_b HBr.out b9); have V2r := hd (V2r.out.keep b9); have V8 := hd (V8.out.keep b9); have q1 : wc.cell? ⟨g8, 1, none⟩ = some (.string aty) := V8.out.cell 1 _ rfl; clear b9)
                    | (go_at_call 48; refine (HRU _ HBr.out aty).out.mono ?_; rintro e9 wd ⟨q, rfl, hq, b9⟩; clear q1; have HQ := hd hq; have HBr := hd (step_b HBr.out b9); clear b9 hq)
                    | (go_at_call 28; refine (HKD _ HBr.out q HQ.out).out.mono ?_; rintro e9 we ⟨rfl, b9⟩; have HBr := hd (step_b HBr.out b9); clear b9))
                  go_ret
                  exact ⟨ret_bool HF.out, HBr.out⟩
                | true =>
                  have HN1 := one_more (p := fun j => wrapK s r (strAt T j) = true) HA (by show wrapK s r (strAt T k) = true; rw [HXK.out, HWK.out, hk1, hk2]; rfl)
                  have HKD := fun (W : World) (hb : Below w.heap.size w W) (q : RuC) (hq : RuAt w q (ruleT s aty)) => HKQ W hb q aty hq x true hk2
                  clear hk1 hk2 HA
                  go_upto_region 8 with (first
                    | ((with_reducible refine gd_load (ty := 27) (x := .tmp 3) ?_); refine wpList_load_row rowT_rule V3r.out rfl _ rfl rfl rfl ?_)
                    | (go_at_call 52; refine HAX.out.mono ?_; rintro e9 wa ⟨rfl, b9⟩; have HBr := hd (step_b HBr.out b9); have HBx := hd (step_b HBx.out b9); have V2r := hd (V2r.out.keep b9); have V3r := hd (V3r.out.keep b9); clear b9)
                    | ((with_reducible refine gd_store (ty := 24) (x := .tmp 8) ?_); refine wpList_store_new rowT_act (r := #[.int .i64 (4), .string aty]) rfl rfl (act_one _ _) _ _ rfl rfl rfl rfl rfl rfl ?_))
                  obtain ⟨g8, hg8⟩ : ∃ g8, wa.heap.size = g8 := ⟨_, rfl⟩
                  obtain ⟨Wb, hWb⟩ : ∃ Wb, wa.alloc (.cells #[.int .i64 (4), .string aty] 24) = Wb := ⟨_, rfl⟩
                  have hbb : Below wa.heap.size wa Wb := hWb ▸ (Below.refl _ _).alloc (Nat.le_refl _) _
                  have HBr := hd (step_b HBr.out hbb)
                  have HBx := hd (step_b HBx.out hbb)
                  have V2r := hd (V2r.out.keep hbb)
                  have V3r := hd (V3r.out.keep hbb)
                  have V8 := hd (show VarR 24 Wb g8 #[.int .i64 (4), .string aty] by rw [← hWb, ← hg8]; exact VarR.new wa _ _)
                  rw [hWb, hg8]
                  clear hbb hWb hg8
                  have q0 : Wb.cell? ⟨g8, 0, none⟩ = some (.int .i64 (4)) := V8.out.cell 0 _ rfl
                  have q1 : Wb.cell? ⟨g8, 1, none⟩ = some (.string aty) := V8.out.cell 1 _ rfl
                  go_wp2_with (first
                    | ((with_reducible refine gd_loadg (ty := 27) (x := .tmp 3) ?_); refine wpList_load_rowg rowT_rule V3r.out rfl _ rfl (by rfl) rfl ?_)
                    | ((with_reducible refine gd_loadg (ty := 30) (x := .tmp 2) ?_); refine wpList_load_rowg rowT_sch V2r.out rfl _ rfl (by rfl) rfl ?_)
                    | (go_at_call 28; have h9 := HKC; clear HKC; refine (h9 _ HBr.out).out.mono ?_; clear h9; rintro e9 wc ⟨rfl, b9⟩; clear q0 q1; have HBr := hd (step_b HBr.out b9); have HBx := hd (step_b HBx.out b9); have V2r := hd (V2r.out.keep b9); have V8 := hd (V8.out.keep b9); have q1 : wc.cell? ⟨g8, 1, none⟩ = some (.string aty) := V8.out.cell 1 _ rfl; clear b9)
                    | (go_at_call 48; refine (HRU _ HBr.out aty).out.mono ?_; rintro e9 wd ⟨q, rfl, hq, b9⟩; clear q1; have HQ := hd hq; have HBr := hd (step_b HBr.out b9); have HBx := hd (step_b HBx.out b9); clear b9 hq)
                    | (go_at_call 28; refine (HKD _ HBr.out q HQ.out).out.mono ?_; rintro e9 we ⟨rfl, b9⟩; have HBr := hd (step_b HBr.out b9); have HBx := hd (step_b HBx.out b9); clear b9))
                  go_roundw
                  case rel => exact ⟨k + 1, by omega, by go_num, HN1, HBx⟩
                  case measure => simp [intOf]; omega
            · have h40 : (an == 4) = false := by simpa using h4
              have HN1 := one_more (p := fun j => wrapK s r (strAt T j) = true) HA (by show wrapK s r (strAt T k) = true; rw [HXK.out, HWK.out]; simp [bne, h40])
              clear HA h4
              go_upto_region 8 with (first
                | ((with_reducible refine gd_load (ty := 27) (x := .tmp 3) ?_); refine wpList_load_row rowT_rule V3r.out rfl _ rfl rfl rfl ?_)
                | (go_at_call 52; refine HAX.out.mono ?_; rintro e9 wa ⟨rfl, b9⟩; have HBr := hd (step_b HBr.out b9); have HBx := hd (step_b HBx.out b9); have V2r := hd (V2r.out.keep b9); have V3r := hd (V3r.out.keep b9); clear b9)
                | ((with_reducible refine gd_store (ty := 24) (x := .tmp 8) ?_); refine wpList_store_new rowT_act (r := #[.int .i64 (an), .string aty]) rfl rfl (act_one _ _) _ _ rfl rfl rfl rfl rfl rfl ?_))
              obtain ⟨g8, hg8⟩ : ∃ g8, wa.heap.size = g8 := ⟨_, rfl⟩
              obtain ⟨Wb, hWb⟩ : ∃ Wb, wa.alloc (.cells #[.int .i64 (an), .string aty] 24) = Wb := ⟨_, rfl⟩
              have hbb : Below wa.heap.size wa Wb := hWb ▸ (Below.refl _ _).alloc (Nat.le_refl _) _
              have HBr := hd (step_b HBr.out hbb)
              have HBx := hd (step_b HBx.out hbb)
              have V2r := hd (V2r.out.keep hbb)
              have V3r := hd (V3r.out.keep hbb)
              have V8 := hd (show VarR 24 Wb g8 #[.int .i64 (an), .string aty] by rw [← hWb, ← hg8]; exact VarR.new wa _ _)
              rw [hWb, hg8]
              clear hbb hWb hg8
              have q0 : Wb.cell? ⟨g8, 0, none⟩ = some (.int .i64 (an)) := V8.out.cell 0 _ rfl
              have q1 : Wb.cell? ⟨g8, 1, none⟩ = some (.string aty) := V8.out.cell 1 _ rfl
              go_wp2_with fail
              go_roundw
              case rel => exact ⟨k + 1, by omega, by go_num, HN1, HBx⟩
              case measure => simp [intOf]; omega
          · obtain rfl : k = n + 1 := by omega
            have HF := hd (show true = E by
              rw [← HX.out, ← HALL.out]
              refine (List.all_eq_true.2 fun y hy => ?_).symm
              obtain ⟨i, hi, rfl⟩ := List.getElem_of_mem hy
              have h1 := HA.out i (by rw [← HTL.out]; exact hi)
              rwa [show strAt T i = T[i] by simp [strAt, List.getD, hi]] at h1)
            clear HA
            go_wp2_with fail
            go_ret
            exact ⟨ret_bool HF.out, HBr.out⟩
  · have h40 : (td == 4) = false := by simpa using h4
    have HX := hd (show G = E by
      have h1 := HE.out
      simp only [bne, h40, Bool.not_false, Bool.true_or, Bool.true_and] at h1
      exact h1)
    clear h4
    go_enter Try.func27, Try.ntmps27
    go_upto_region 1 with fail
    rw [HW.out]
    go_upto_region 2 with (first
      | ((with_reducible refine gd_load (ty := 24) (x := .tmp 9) ?_); refine wpList_load_at rowT_act (r := #[.int .i64 td, .string tt]) (V3.out.two 1 rfl rfl) rfl _ rfl rfl rfl ?_)
      | ((with_reducible refine gd_store (ty := 24) (x := .tmp 5) ?_); refine wpList_store_new rowT_act (r := #[.int .i64 td, .string tt]) rfl rfl (act_one _ _) _ _ rfl rfl rfl rfl rfl rfl ?_))
    obtain ⟨g5, hg5⟩ : ∃ g5, W0.heap.size = g5 := ⟨_, rfl⟩
    obtain ⟨W5, hW5⟩ : ∃ W5, W0.alloc (.cells #[.int .i64 td, .string tt] 24) = W5 := ⟨_, rfl⟩
    have hb5 : Below W0.heap.size W0 W5 := hW5 ▸ (Below.refl _ _).alloc (Nat.le_refl _) _
    have HB := hd (step_b HB.out hb5)
    have V2 := hd (V2.out.keep hb5)
    have V3 := hd (V3.out.keep hb5)
    have V5 := hd (show VarR 24 W5 g5 #[.int .i64 td, .string tt] by rw [← hW5, ← hg5]; exact VarR.new W0 _ _)
    rw [hW5, hg5]
    clear hb5 hW5 hg5
    have z0 : W5.cell? ⟨g5, 0, none⟩ = some (.int .i64 (td)) := V5.out.cell 0 _ rfl
    have z1 : W5.cell? ⟨g5, 1, none⟩ = some (.string tt) := V5.out.cell 1 _ rfl
    go_upto_region 4 with fail
    clear z0 z1
    have HBW := hd (Below.refl W5.heap.size W5)
    go_upto_region 5 with (first
      | ((with_reducible refine gd_load (ty := 30) (x := .tmp 2) ?_); refine wpList_load_row rowT_sch V2.out rfl _ rfl rfl rfl ?_)
      | (go_at_call 51; refine (HNA _ HB.out).out.mono ?_; rintro e9 w8 ⟨A, n, cp, ts, rfl, hn3, ho, hts, b9⟩; have HO := hd ho; have HTS := hd (wraps_all (r := r) hts); have HBW := hd b9; clear ho hts b9)
      | (at_builtin; refine wpList_append_GX strG _ rfl (.tmp 31) (.tmp 32) rfl W5.heap.size _ n _ rfl (HO.out.1.alloc _) (some ⟨w8.heap.size, 0, none⟩) 1 1 _ [.string ⟨#[]⟩] rfl rfl (new_cellsV w8 #[.string ⟨#[]⟩] _) (by simp [Value.oneCell']) (by unfold maxLen; omega) (by omega) (by have := HBW.out.size; simp; omega) ?_; intro A3 c3 w9 ho3 hg3 hat3))
    have HO9 := hd (own_more (M := [(⟨#[]⟩ : Nm)]) (k := 1) HO.out.2 rfl rfl ho3)
    have HBW9 := hd (agrown_below (HBW.out.alloc HBW.out.size _) hg3 (fun j hj => (HO.out.1.lt j hj).1))
    have V2 := hd (V2.out.keep HBW9.out)
    have V3 := hd (V3.out.keep HBW9.out)
    have HB := hd (step_b HB.out HBW9.out)
    have HVL := hd (arow_vl HO9.out.1).2
    have HALL := hd (show (ts ++ [(⟨#[]⟩ : Nm)]).all (wrapK s r) = G from HTS.out.trans HG.out)
    have HTL := hd (show (ts ++ [(⟨#[]⟩ : Nm)]).length = n + 1 from HO9.out.2)
    obtain ⟨T, hT⟩ : ∃ T, ts ++ [(⟨#[]⟩ : Nm)] = T := ⟨_, rfl⟩
    rw [hT] at HVL HALL HTL
    clear ho3 hg3 hat3 HO HO9 HTS HBW hT HBW9
    go_wp2_with fail
    go_loopw [35] (fun i wr => ∃ k : Nat, k ≤ n + 1 ∧ i = .int .i64 k ∧ Hid (∀ j, j < k → wrapK s r (strAt T j) = true) ∧ Hid (Below w9.heap.size w9 wr)) (fun i _ => n + 1 - (intOf i).toNat)
    case atStart => exact ⟨0, Nat.zero_le _, rfl, hd (fun j hj => absurd hj (Nat.not_lt_zero _)), hd (Below.refl _ _)⟩
    case round =>
      obtain ⟨k, hk1, rfl, HA, HBx⟩ := hrel
      have V2r := hd (V2.out.keep HBx.out)
      have V3r := hd (V3.out.keep HBx.out)
      have HBr := hd (step_b HB.out HBx.out)
      by_cases hlt : k < n + 1
      · obtain ⟨b, o, hA, hbl, hc⟩ := vl_str (HVL.out.later HBx.out) (k := k) (by rw [HTL.out]; exact hlt)
        subst hA
        have hmem : strAt T k ∈ T := strAt_mem (by rw [HTL.out]; exact hlt)
        obtain ⟨x, hx⟩ : ∃ x, strAt T k = x := ⟨_, rfl⟩
        have HXK := hd hx
        rw [hx] at hc hmem
        obtain ⟨a, ha⟩ : ∃ a, actT r x = a := ⟨_, rfl⟩
        have hac := (HAC _ HBr.out x).out
        rw [ha] at hac
        have hwk : wrapK s r x = (a.act != 4 || (keepsT r a.ty && keepsT (ruleT s a.ty) x)) := by unfold wrapK; rw [ha]
        obtain ⟨an, aty⟩ := a
        have HAX := hd hac
        have HWK := hd (show wrapK s r x = (an != 4 || (keepsT r aty && keepsT (ruleT s aty) x)) from hwk)
        have HMEM := hd hmem
        clear hac hwk ha hbl hmem hx
        by_cases h4 : an = 4
        · subst h4
          cases hk1 : keepsT r aty with
          | false =>
            have HF := hd (show false = E by rw [← HX.out, ← HALL.out]; exact (all_failsW HMEM.out (by rw [HWK.out, hk1]; rfl)).symm)
            have HKC := fun (W : World) (hb : Below w.heap.size w W) => HKP W hb aty false hk1
            clear hk1
            go_upto_region 8 with (first
              | ((with_reducible refine gd_load (ty := 27) (x := .tmp 3) ?_); refine wpList_load_row rowT_rule V3r.out rfl _ rfl rfl rfl ?_)
              | (go_at_call 52; refine HAX.out.mono ?_; rintro e9 wa ⟨rfl, b9⟩; have HBr := hd (step_b HBr.out b9); have HBx := hd (step_b HBx.out b9); have V2r := hd (V2r.out.keep b9); have V3r := hd (V3r.out.keep b9); clear b9)
              | ((with_reducible refine gd_store (ty := 24) (x := .tmp 8) ?_); refine wpList_store_new rowT_act (r := #[.int .i64 (4), .string aty]) rfl rfl (act_one _ _) _ _ rfl rfl rfl rfl rfl rfl ?_))
            obtain ⟨g8, hg8⟩ : ∃ g8, wa.heap.size = g8 := ⟨_, rfl⟩
            obtain ⟨Wb, hWb⟩ : ∃ Wb, wa.alloc (.cells #[.int .i64 (4), .string aty] 24) = Wb := ⟨_, rfl⟩
            have hbb : Below wa.heap.size wa Wb := hWb ▸ (Below.refl _ _).alloc (Nat.le_refl _) _
            have HBr := hd (step_b HBr.out hbb)
            have HBx := hd (step_b HBx.out hbb)
            have V2r := hd (V2r.out.keep hbb)
            have V3r := hd (V3r.out.keep hbb)
            have V8 := hd (show VarR 24 Wb g8 #[.int .i64 (4), .string aty] by rw [← hWb, ← hg8]; exact VarR.new wa _ _)
            rw [hWb, hg8]
            clear hbb hWb hg8
            have q0 : Wb.cell? ⟨g8, 0, none⟩ = some (.int .i64 (4)) := V8.out.cell 0 _ rfl
            have q1 : Wb.cell? ⟨g8, 1, none⟩ = some (.string aty) := V8.out.cell 1 _ rfl
            go_wp2_with (first
              | ((with_reducible refine gd_loadg (ty := 27) (x := .tmp 3) ?_); refine wpList_load_rowg rowT_rule V3r.out rfl _ rfl (by rfl) rfl ?_)
              | (go_at_call 28; refine (HKC _ HBr.out).out.mono ?_; rintro e9 wc ⟨rfl, b9⟩; clear q0 q1; have HBr := hd (step_b HBr.out b9); clear b9))
            go_ret
            exact ⟨ret_bool HF.out, HBr.out⟩
          | true =>
            have HKC := fun (W : World) (hb : Below w.heap.size w W) => HKP W hb aty true hk1
            cases hk2 : keepsT (ruleT s aty) x with
            | false =>
              have HF := hd (show false = E by rw [← HX.out, ← HALL.out]; exact (all_failsW HMEM.out (by rw [HWK.out, hk1, hk2]; rfl)).symm)
              have HKD := fun (W : World) (hb : Below w.heap.size w W) (q : RuC) (hq : RuAt w q (ruleT s aty)) => HKQ W hb q aty hq x false hk2
              clear hk1 hk2
              go_upto_region 8 with (first
                | ((with_reducible refine gd_load (ty := 27) (x := .tmp 3) ?_); refine wpList_load_row rowT_rule V3r.out rfl _ rfl rfl rfl ?_)
                | (go_at_call 52; refine HAX.out.mono ?_; rintro e9 wa ⟨rfl, b9⟩; have HBr := hd (step_b HBr.out b9); have HBx := hd (step_b HBx.out b9); have V2r := hd (V2r.out.keep b9); have V3r := hd (V3r.out.keep b9); clear b9)
                | ((with_reducible refine gd_store (ty := 24) (x := .tmp 8) ?_); refine wpList_store_new rowT_act (r := #[.int .i64 (4), .string aty]) rfl rfl (act_one _ _) _ _ rfl rfl rfl rfl rfl rfl ?_))
              obtain ⟨g8, hg8⟩ : ∃ g8, wa.heap.size = g8 := ⟨_, rfl⟩
              obtain ⟨Wb, hWb⟩ : ∃ Wb, wa.alloc (.cells #[.int .i64 (4), .string aty] 24) = Wb := ⟨_, rfl⟩
              have hbb : Below wa.heap.size wa Wb := hWb ▸ (Below.refl _ _).alloc (Nat.le_refl _) _
              have HBr := hd (step_b HBr.out hbb)
              have HBx := hd (step_b HBx.out hbb)
              have V2r := hd (V2r.out.keep hbb)
              have V3r := hd (V3r.out.keep hbb)
              have V8 := hd (show VarR 24 Wb g8 #[.int .i64 (4), .string aty] by rw [← hWb, ← hg8]; exact VarR.new wa _ _)
              rw [hWb, hg8]
              clear hbb hWb hg8
              have q0 : Wb.cell? ⟨g8, 0, none⟩ = some (.int .i64 (4)) := V8.out.cell 0 _ rfl
              have q1 : Wb.cell? ⟨g8, 1, none⟩ = some (.string aty) := V8.out.cell 1 _ rfl
              go_wp2_with (first
                | ((with_reducible refine gd_loadg (ty := 27) (x := .tmp 3) ?_); refine wpList_load_rowg rowT_rule V3r.out rfl _ rfl (by rfl) rfl ?_)
                | ((with_reducible refine gd_loadg (ty := 30) (x := .tmp 2) ?_); refine wpList_load_rowg rowT_sch V2r.out rfl _ rfl (by rfl) rfl ?_)
                | (go_at_call 28; have h9 := HKC; clear HKC; refine (h9 _ HBr.out).out.mono ?_; clear h9; rintro e9 wc ⟨rfl, b9⟩; clear q0 q1; have HBr := hd (step_b HBr.out b9); have V2r := hd (V2r.out.keep b9); have V8 := hd (V8.out.keep b9); have q1 : wc.cell? ⟨g8, 1, none⟩ = some (.string aty) := V8.out.cell 1 _ rfl; clear b9)
                | (go_at_call 48; refine (HRU _ HBr.out aty).out.mono ?_; rintro e9 wd ⟨q, rfl, hq, b9⟩; clear q1; have HQ := hd hq; have HBr := hd (step_b HBr.out b9); clear b9 hq)
                | (go_at_call 28; refine (HKD _ HBr.out q HQ.out).out.mono ?_; rintro e9 we ⟨rfl, b9⟩; have HBr := hd (step_b HBr.out b9); clear b9))
              go_ret
              exact ⟨ret_bool HF.out, HBr.out⟩
            | true =>
              have HN1 := one_more (p := fun j => wrapK s r (strAt T j) = true) HA (by show wrapK s r (strAt T k) = true; rw [HXK.out, HWK.out, hk1, hk2]; rfl)
              have HKD := fun (W : World) (hb : Below w.heap.size w W) (q : RuC) (hq : RuAt w q (ruleT s aty)) => HKQ W hb q aty hq x true hk2
              clear hk1 hk2 HA
              go_upto_region 8 with (first
                | ((with_reducible refine gd_load (ty := 27) (x := .tmp 3) ?_); refine wpList_load_row rowT_rule V3r.out rfl _ rfl rfl rfl ?_)
                | (go_at_call 52; refine HAX.out.mono ?_; rintro e9 wa ⟨rfl, b9⟩; have HBr := hd (step_b HBr.out b9); have HBx := hd (step_b HBx.out b9); have V2r := hd (V2r.out.keep b9); have V3r := hd (V3r.out.keep b9); clear b9)
                | ((with_reducible refine gd_store (ty := 24) (x := .tmp 8) ?_); refine wpList_store_new rowT_act (r := #[.int .i64 (4), .string aty]) rfl rfl (act_one _ _) _ _ rfl rfl rfl rfl rfl rfl ?_))
              obtain ⟨g8, hg8⟩ : ∃ g8, wa.heap.size = g8 := ⟨_, rfl⟩
              obtain ⟨Wb, hWb⟩ : ∃ Wb, wa.alloc (.cells #[.int .i64 (4), .string aty] 24) = Wb := ⟨_, rfl⟩
              have hbb : Below wa.heap.size wa Wb := hWb ▸ (Below.refl _ _).alloc (Nat.le_refl _) _
              have HBr := hd (step_b HBr.out hbb)
              have HBx := hd (step_b HBx.out hbb)
              have V2r := hd (V2r.out.keep hbb)
              have V3r := hd (V3r.out.keep hbb)
              have V8 := hd (show VarR 24 Wb g8 #[.int .i64 (4), .string aty] by rw [← hWb, ← hg8]; exact VarR.new wa _ _)
              rw [hWb, hg8]
              clear hbb hWb hg8
              have q0 : Wb.cell? ⟨g8, 0, none⟩ = some (.int .i64 (4)) := V8.out.cell 0 _ rfl
              have q1 : Wb.cell? ⟨g8, 1, none⟩ = some (.string aty) := V8.out.cell 1 _ rfl
              go_wp2_with (first
                | ((with_reducible refine gd_loadg (ty := 27) (x := .tmp 3) ?_); refine wpList_load_rowg rowT_rule V3r.out rfl _ rfl (by rfl) rfl ?_)
                | ((with_reducible refine gd_loadg (ty := 30) (x := .tmp 2) ?_); refine wpList_load_rowg rowT_sch V2r.out rfl _ rfl (by rfl) rfl ?_)
                | (go_at_call 28; have h9 := HKC; clear HKC; refine (h9 _ HBr.out).out.mono ?_; clear h9; rintro e9 wc ⟨rfl, b9⟩; clear q0 q1; have HBr := hd (step_b HBr.out b9); have HBx := hd (step_b HBx.out b9); have V2r := hd (V2r.out.keep b9); have V8 := hd (V8.out.keep b9); have q1 : wc.cell? ⟨g8, 1, none⟩ = some (.string aty) := V8.out.cell 1 _ rfl; clear b9)
                | (go_at_call 48; refine (HRU _ HBr.out aty).out.mono ?_; rintro e9 wd ⟨q, rfl, hq, b9⟩; clear q1; have HQ := hd hq; have HBr := hd (step_b HBr.out b9); have HBx := hd (step_b HBx.out b9); clear b9 hq)
                | (go_at_call 28; refine (HKD _ HBr.out q HQ.out).out.mono ?_; rintro e9 we ⟨rfl, b9⟩; have HBr := hd (step_b HBr.out b9); have HBx := hd (step_b HBx.out b9); clear b9))
              go_roundw
              case rel => exact ⟨k + 1, by omega, by go_num, HN1, HBx⟩
              case measure => simp [intOf]; omega
        · have h40 : (an == 4) = false := by simpa using h4
          have HN1 := one_more (p := fun j => wrapK s r (strAt T j) = true) HA (by show wrapK s r (strAt T k) = true; rw [HXK.out, HWK.out]; simp [bne, h40])
          clear HA h4
          go_upto_region 8 with (first
            | ((with_reducible refine gd_load (ty := 27) (x := .tmp 3) ?_); refine wpList_load_row rowT_rule V3r.out rfl _ rfl rfl rfl ?_)
            | (go_at_call 52; refine HAX.out.mono ?_; rintro e9 wa ⟨rfl, b9⟩; have HBr := hd (step_b HBr.out b9); have HBx := hd (step_b HBx.out b9); have V2r := hd (V2r.out.keep b9); have V3r := hd (V3r.out.keep b9); clear b9)
            | ((with_reducible refine gd_store (ty := 24) (x := .tmp 8) ?_); refine wpList_store_new rowT_act (r := #[.int .i64 (an), .string aty]) rfl rfl (act_one _ _) _ _ rfl rfl rfl rfl rfl rfl ?_))
          obtain ⟨g8, hg8⟩ : ∃ g8, wa.heap.size = g8 := ⟨_, rfl⟩
          obtain ⟨Wb, hWb⟩ : ∃ Wb, wa.alloc (.cells #[.int .i64 (an), .string aty] 24) = Wb := ⟨_, rfl⟩
          have hbb : Below wa.heap.size wa Wb := hWb ▸ (Below.refl _ _).alloc (Nat.le_refl _) _
          have HBr := hd (step_b HBr.out hbb)
          have HBx := hd (step_b HBx.out hbb)
          have V2r := hd (V2r.out.keep hbb)
          have V3r := hd (V3r.out.keep hbb)
          have V8 := hd (show VarR 24 Wb g8 #[.int .i64 (an), .string aty] by rw [← hWb, ← hg8]; exact VarR.new wa _ _)
          rw [hWb, hg8]
          clear hbb hWb hg8
          have q0 : Wb.cell? ⟨g8, 0, none⟩ = some (.int .i64 (an)) := V8.out.cell 0 _ rfl
          have q1 : Wb.cell? ⟨g8, 1, none⟩ = some (.string aty) := V8.out.cell 1 _ rfl
          go_wp2_with fail
          go_roundw
          case rel => exact ⟨k + 1, by omega, by go_num, HN1, HBx⟩
          case measure => simp [intOf]; omega
      · obtain rfl : k = n + 1 := by omega
        have HF := hd (show true = E by
          rw [← HX.out, ← HALL.out]
          refine (List.all_eq_true.2 fun y hy => ?_).symm
          obtain ⟨i, hi, rfl⟩ := List.getElem_of_mem hy
          have h1 := HA.out i (by rw [← HTL.out]; exact hi)
          rwa [show strAt T i = T[i] by simp [strAt, List.getD, hi]] at h1)
        clear HA
        go_wp2_with fail
        go_ret
        exact ⟨ret_bool HF.out, HBr.out⟩

end Go.Proofs.Ytegaapeaeffgoaa
