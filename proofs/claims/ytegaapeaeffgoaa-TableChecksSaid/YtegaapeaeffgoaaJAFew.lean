/- The document's Few of a schema: it answers. The chapter's example: a schema that keeps all may be, one with no Cap may not; the law's Elem. The law's Elem, and live. -/
import Derived.Test.YtegaapeaeffgoaaJARules
import Derived.Test.YtegaapeaeffgoaaJAFormed2
namespace Go.Proofs.Ytegaapeaeffgoaa
open Go.RowKit

/-- A call that answers yes or no, and leaves what was there. -/
def Some_ (w : World) (e : Ending) (w' : World) : Prop := ∃ B, e = .returned (.bool B) ∧ Below w.heap.size w w'
set_option maxRecDepth 100000 in
set_option maxHeartbeats 8000000 in
theorem few15_any {w : World} {c : ScC} {s : SchT} (h : ScAt w c s) (hby : (s.rules.length + 1) * 112 ≤ 140737488355328) : Calls Try.prog 8 #[.agg c.row] w (Some_ w) := by
  have hb : Below w.heap.size w (w.alloc (.cells c.row 30)) := (Below.refl _ _).alloc (Nat.le_refl _) _
  have hv := VarR.new w 30 c.row
  obtain ⟨W0, hW⟩ : ∃ W0, w.alloc (.cells c.row 30) = W0 := ⟨_, rfl⟩
  rw [hW] at hb hv
  have HAL := hd (rall15_any (h.later hb) hby)
  have HLN := hd (show (allT s).length = s.rules.length + 1 by simp [allT])
  have HBY := hd hby
  have HW := hd hW
  have HB := hd hb
  have V1 := hd hv
  clear h hby hb hv hW
  go_enter Try.func8, Try.ntmps8
  go_upto_region 1 with fail
  rw [HW.out]
  go_wp2_with (first
    | ((with_reducible refine gd_load (ty := 30) (x := .tmp 1) ?_); refine wpList_load_row rowT_sch V1.out rfl _ rfl rfl rfl ?_)
    | (go_at_call 19; refine HAL.out.mono ?_; rintro e9 w4 ⟨A4, n4, c4, ds, rfl, hn4, hu4, b9⟩; have HU := hd hu4; have HN4 := hd hn4; have HB := hd (step_b HB.out b9); clear hn4 hu4 b9))
  have hn33 : n4 ≤ 2000000000000 := by have h1 := HN4.out; have h2 := HLN.out; have h3 := HBY.out; omega
  go_loopw [3, 11] (fun v i wr => ∃ (k : Nat) (x : Int), k ≤ n4 ∧ i = .int .i64 k ∧ v = .int .i64 x ∧ Hid (Below w4.heap.size w4 wr)) (fun _ i _ => n4 - (intOf i).toNat)
  case atStart => exact ⟨0, 0, Nat.zero_le _, rfl, rfl, hd (Below.refl _ _)⟩
  case round =>
    obtain ⟨k, x, hk1, rfl, rfl, HB4⟩ := hrel
    by_cases hlt : k < n4
    · have hlt2 : k < (allT s).length := by rw [HN4.out]; exact hlt
      have HRU := hd ((HU.out.later HB4.out).ru hlt2)
      obtain ⟨b, o, hR, hbl, hrg⟩ := (rowA_rules HN4.out (HU.out.later HB4.out)).2 k hlt
      obtain rfl : A4 = some ⟨b, o, none⟩ := hR
      obtain ⟨p, hp⟩ : ∃ p, ruAt ds k = p := ⟨_, rfl⟩
      simp only [hp] at hrg
      rw [hp] at HRU
      have HRG := hd hrg
      obtain ⟨ty, td, tt, od, ot, KA, nk, ck, fill, fty⟩ := p
      have HNK := hd (show (rulAt (allT s) k).kids.length = nk from HRU.out.len)
      have hnk : nk ≤ 9223372036854775807 := HRU.out.max
      have f1 : ty.size ≤ 9223372036854775807 := by have := HRU.out.fit.ty; rw [HRU.out.hty] at this; exact this
      have f2 : tt.size ≤ 9223372036854775807 := by have := HRU.out.fit.tt; rw [HRU.out.htext] at this; exact this
      have f3 : ot.size ≤ 9223372036854775807 := by have := HRU.out.fit.ot; rw [HRU.out.hother] at this; exact this
      have f4 : fty.size ≤ 9223372036854775807 := by have := HRU.out.fit.fty; rw [HRU.out.hfty] at this; exact this
      obtain ⟨W2, hW2⟩ : ∃ W2, wr.alloc (.cells (RuC.mk ty td tt od ot KA nk ck fill fty).row 27) = W2 := ⟨_, rfl⟩
      obtain ⟨g, hg⟩ : ∃ g, wr.heap.size = g := ⟨_, rfl⟩
      have hb2 : Below wr.heap.size wr W2 := hW2 ▸ (Below.refl _ _).alloc (Nat.le_refl _) _
      have V6 := hd (show VarR 27 W2 g (RuC.mk ty td tt od ot KA nk ck fill fty).row by rw [← hW2, ← hg]; exact VarR.new wr _ _)
      have HBQ := hd (step_b HB4.out hb2)
      have HRA := hd (HRU.out.later hb2)
      have HW2 := hd hW2
      have HG := hd hg
      have y0 : W2.cell? ⟨g, 0, none⟩ = some (.string ty) := V6.out.cell 0 _ rfl
      have y2 : W2.cell? ⟨g, 2, none⟩ = some (.string tt) := V6.out.cell 2 _ rfl
      have y4 : W2.cell? ⟨g, 4, none⟩ = some (.string ot) := V6.out.cell 4 _ rfl
      have y5 : W2.cell? ⟨g, 5, none⟩ = some (.slice KA nk ck) := V6.out.cell 5 _ rfl
      have y7 : W2.cell? ⟨g, 7, none⟩ = some (.string fty) := V6.out.cell 7 _ rfl
      clear hrg hb2 hW2 hg hbl hp HRU
      go_upto_region 5 with (first
        | ((with_reducible refine gd_load (ty := 27) (x := .tmp 13) ?_); refine wpList_load_at rowT_rule (r := (RuC.mk ty td tt od ot KA nk ck fill fty).row) HRG.out rfl _ rfl rfl rfl ?_)
        | ((with_reducible refine gd_store (ty := 27) (x := .tmp 5) ?_); refine wpList_store_new rowT_rule (r := (RuC.mk ty td tt od ot KA nk ck fill fty).row) rfl rfl (RuC.one _) _ _ rfl rfl rfl rfl rfl rfl ?_))
      rw [HW2.out, HG.out]
      go_wp2_with fail
      clear y0 y2 y4 y5 y7 f1 f2 f3 f4
      go_loopw [3, 43] (fun v i wq => ∃ (j : Nat) (x : Int), j ≤ nk ∧ i = .int .i64 j ∧ v = .int .i64 x ∧ Hid (Below w4.heap.size w4 wq) ∧ Hid (Below W2.heap.size W2 wq)) (fun _ i _ => nk - (intOf i).toNat)
      case atStart => exact ⟨0, _, Nat.zero_le _, rfl, rfl, HBQ, hd (Below.refl _ _)⟩
      case round =>
        obtain ⟨j, x, hj1, rfl, rfl, HBx, HBy⟩ := hrel
        by_cases hlj : j < nk
        · have hlj2 : j < (rulAt (allT s) k).kids.length := by rw [HNK.out]; exact hlj
          obtain ⟨kb, ko, hKA, hkl, hkr⟩ := (HRA.out.later HBy.out).kid hlj2
          obtain rfl : KA = some ⟨kb, ko, none⟩ := hKA
          obtain ⟨q, hq⟩ : ∃ q, kidAt (rulAt (allT s) k).kids j = q := ⟨_, rfl⟩
          have hfq := HRA.out.fit.kids (kidAt (rulAt (allT s) k).kids j) (by rw [kidAt_mem hlj2]; exact List.getElem_mem _)
          rw [hq] at hkr hfq
          have HKR := hd hkr
          obtain ⟨qt, ⟨qa, qw⟩⟩ := q
          have f1 : qt.size ≤ 9223372036854775807 := hfq.1
          have f2 : qw.size ≤ 9223372036854775807 := hfq.2
          obtain ⟨W3, hW3⟩ : ∃ W3, wr.alloc (.cells (PairT.mk qt ⟨qa, qw⟩).row 52) = W3 := ⟨_, rfl⟩
          obtain ⟨g3, hg3⟩ : ∃ g3, wr.heap.size = g3 := ⟨_, rfl⟩
          have hb3 : Below wr.heap.size wr W3 := hW3 ▸ (Below.refl _ _).alloc (Nat.le_refl _) _
          have V7 := hd (show VarR 52 W3 g3 (PairT.mk qt ⟨qa, qw⟩).row by rw [← hW3, ← hg3]; exact VarR.new wr _ _)
          have HBx := hd (step_b HBx.out hb3)
          have HBy := hd (step_b HBy.out hb3)
          have HW3 := hd hW3
          have HG3 := hd hg3
          have y0 : W3.cell? ⟨g3, 0, none⟩ = some (.string qt) := V7.out.cell 0 _ rfl
          have y2 : W3.cell? ⟨g3, 2, none⟩ = some (.string qw) := V7.out.cell 2 _ rfl
          clear hkr hq hfq hkl hb3 hW3 hg3
          go_upto_region 9 with (first
            | ((with_reducible refine gd_load (ty := 52) (x := .tmp 45) ?_); refine wpList_load_at rowT_pair (r := (PairT.mk qt ⟨qa, qw⟩).row) HKR.out rfl _ rfl rfl rfl ?_)
            | ((with_reducible refine gd_store (ty := 52) (x := .tmp 7) ?_); refine wpList_store_new rowT_pair (r := (PairT.mk qt ⟨qa, qw⟩).row) rfl rfl (PairT.one _) _ _ rfl rfl rfl rfl rfl rfl ?_))
          rw [HW3.out, HG3.out]
          go_wp2_with fail
          go_roundw
          case rel => exact ⟨j + 1, _, by omega, by go_num, rfl, HBx, HBy⟩
          case measure => simp [intOf]; omega
        · obtain rfl : j = nk := by omega
          go_wp2_with fail
          go_roundw
          case rel => exact ⟨k + 1, _, by omega, by go_num, rfl, HBx⟩
          case measure => simp [intOf]; omega
    · obtain rfl : k = n4 := by omega
      go_wp2_with fail
      go_ret
      exact ⟨_, rfl, step_b HB.out HB4.out⟩

end Go.Proofs.Ytegaapeaeffgoaa

namespace Go.Proofs.Ytegaapeaeffgoaa
open Go.RowKit

def plainR : RuC := ⟨noN, 1, noN, 1, noN, none, 0, 0, 0, noN⟩
def plainC (n : Int) : ScC := ⟨none, 0, 0, plainR, 1, 2, 3, 4, 5, 6, n⟩
def plainU : RuleT := ⟨noN, ⟨1, noN⟩, ⟨1, noN⟩, [], 0, noN⟩
def plainS (n : Int) : SchT := ⟨[], plainU, [1, 2, 3, 4, 5, 6], n⟩
set_option maxRecDepth 4000 in
theorem plainR_at (w : World) : RuAt w plainR plainU := ⟨rfl, rfl, rfl, rfl, rfl, rfl, Nat.le_refl _, by show (0 : Nat) ≤ _; omega, VL.nil _ _ _, ⟨fit0, fit0, fit0, fit0, fun p h => by simp [plainU] at h⟩⟩
set_option maxRecDepth 4000 in
theorem plain_at (w : World) (n : Int) : ScAt w (plainC n) (plainS n) := ⟨rfl, rfl, plainR_at w, rfl, Nat.le_refl _, by show (0 : Nat) ≤ _; omega, ⟨[], LU.nil _ _⟩⟩
set_option maxRecDepth 4000 in
theorem plain_fit (n : Int) : ∀ r ∈ allT (plainS n), FitR r := fun r hr => by
  simp [allT, plainS] at hr
  subst hr
  exact ⟨fit0, fit0, fit0, fit0, fun p h => by simp [plainU] at h⟩
set_option maxRecDepth 4000 in
theorem empty0 : emptyN noN = true := emptyN_iff.2 rfl
set_option maxRecDepth 4000 in
theorem plain_act (k : Nm) : actT plainU k = ⟨1, noN⟩ := actT_none fun p h => by simp [plainU] at h
set_option maxRecDepth 4000 in
theorem plain_ok : okSch (plainS 100) = true := by
  have h1 : ruleOk plainU = true := by simp [ruleOk, plainU, formT, kidsOk, fillT, empty0]
  have h2 : wrapsT (plainS 100) plainU = true := by
    unfold wrapsT wrapL wrapK
    simp only [plain_act]
    simp [plainU]
  have h3 : filledT plainU = true := rfl
  have h4 : (fillsT (plainS 100) plainU).isSome = true := rfl
  have e : allT (plainS 100) = [plainU] := rfl
  have h5 : okSchA (plainS 100) = true := by
    unfold okSchA
    rw [e]
    simp only [List.all_cons, List.all_nil, h1, Bool.and_true]
    simp [plainS, plainU, empty0, rulesOk, orderT]
  unfold okSch okSchZ
  rw [h5, e]
  simp [h2, h3, h4]
set_option maxRecDepth 4000 in
theorem plain_no : okSch (plainS 0) = false := by
  unfold okSch okSchA
  simp [plainS]
set_option maxRecDepth 100000 in
set_option maxHeartbeats 4000000 in
theorem plain_any (w : World) : Calls Try.prog 18 #[] w (Still (.agg (plainC 100).row) w) := by
  go_enter Try.func18, Try.ntmps18
  go_wp2
  refine bodyPost_ret (v := .agg (plainC 100).row) (by simp [results, Try.results18, go_sem, plainC, ScC.row, plainR, noN]; rfl) rfl ⟨rfl, ?_⟩
  exact ((Below.refl _ _).alloc (Nat.le_refl _) _).alloc (by simp) _

end Go.Proofs.Ytegaapeaeffgoaa

namespace Go.Proofs.Ytegaapeaeffgoaa
open Go.RowKit

set_option maxHeartbeats 2000000 in
theorem relem_some {k : Nm} (hk : k ≠ noN) (w : World) : Calls Try.prog 16 #[.string k, .slice none 0 0] w (NewEl w k) := by
  have h0 : k.toList ≠ [] := fun h => hk (nm_inj (by rw [h, noN_list]))
  have h1 : k.toList.isEmpty = false := by cases h : k.toList with
    | nil => exact absurd h h0
    | cons => rfl
  clear hk
  go_enter Try.func16, Try.ntmps16
  go_wp2
  refine bodyPost_ret (v := .agg (elC (w.heap.size + 1 + 1)).row) (by simp [results, Try.results16, go_sem, elC, NC.row]) rfl ⟨w.heap.size + 1 + 1, rfl, ?_, by omega, ?_⟩
  · intro _
    refine ⟨w.heap.size + 1 + 1, 0, rfl, by simp, fun j hj => ?_⟩
    obtain rfl : j = 0 := by simp at hj; omega
    constructor <;> (rw [World.cell?_alloc_at _ _ _ _ (by simp)]; rfl)
  · exact (((Below.refl _ _).alloc (Nat.le_refl _) _).alloc (by simp) _).alloc (by simp; omega) _
set_option maxRecDepth 4000 in
theorem sz_int15 : (Try.prog.info? 3).map (·.size) = some 1 := by kernel_rfl
def nmP : Nm := { data := #[112] }
set_option maxRecDepth 4000 in
theorem nmP_ne : nmP ≠ noN := fun h => by
  have := congrArg (fun x : Nm => x.data.size) h
  simp [nmP, noN] at this
set_option maxRecDepth 100000 in
set_option maxHeartbeats 8000000 in
theorem live15_any (w : World) : Calls Try.prog 7 #[] w (AllTrue w) := by
  have HE0 := hd (show ansE (plainS 100) = 0 by unfold ansE; rw [plain_ok]; rfl)
  have HE1 := hd (show ansE (plainS 0) = 12 by unfold ansE; rw [plain_no]; rfl)
  have HC0 := fun (W : World) => hd (check_any15 (plain_at W 100) (plain_fit 100))
  rw [HE0.out] at HC0
  have HC1 := fun (W : World) => hd (check_any15 (plain_at W 0) (plain_fit 0))
  rw [HE1.out] at HC1
  have HRU := fun (W : World) => hd (rule_any (k := nmP) (plain_at W 100) (by simp [plainS]) (E := plainU) rfl (by simp [plainU]))
  have HAC := fun (W : World) (c : RuC) (g : Nat) (hr : RuAt W c plainU) (hp : PL W W.heap.size (some ⟨g, 0, none⟩) [(tyKey, nmP)]) => hd (act_any (q := some nmP) (E := ⟨1, noN⟩) hr (by simp [plainU]) (elC_at hp) (plain_act nmP))
  have hf := run_act_0 1 noN
  go_enter Try.func7, Try.ntmps7
  go_upto_region 2 with (first
    | (go_at_call 18; refine (plain_any _).mono ?_; rintro e9 w1 ⟨rfl, b9⟩; have HB := hd b9; clear b9)
    | ((with_reducible refine gd_store (ty := 30) (x := .tmp 1) ?_); refine wpList_store_new rowT_sch (r := (plainC 100).row) rfl rfl (ScC.one _) _ _ rfl rfl rfl rfl rfl rfl ?_))
  obtain ⟨g, hg⟩ : ∃ g, w1.heap.size = g := ⟨_, rfl⟩
  obtain ⟨W2, hW2⟩ : ∃ W2, w1.alloc (.cells (plainC 100).row 30) = W2 := ⟨_, rfl⟩
  have hb2 : Below w1.heap.size w1 W2 := hW2 ▸ (Below.refl _ _).alloc (Nat.le_refl _) _
  have V1 := hd (show VarR 30 W2 g (plainC 100).row by rw [← hW2, ← hg]; exact VarR.new w1 _ _)
  have HG := hd (show w.heap.size ≤ g by rw [← hg]; exact HB.out.size)
  have HB := hd (step_b HB.out hb2)
  rw [hW2, hg]
  clear hW2 hg hb2
  go_wp2_with (first
    | ((with_reducible refine gd_store (ty := 3) (x := .tmp 3) ?_); refine wpList_store_part sz_int15 V1.out _ _ rfl rfl rfl 15 (.int .i64 0) [.int .i64 0] rfl rfl rfl rfl (by simp [Value.oneCell']) (by show (16 : Nat) ≤ 16; decide) (r' := (plainC 0).row) rfl ?_; intro W3 hv3 ho3; have V1 := hd hv3; have HB := hd (off_below HB.out ho3 HG.out); clear hv3 ho3)
    | (go_at_call 18; have _g := HC0; refine (plain_any _).mono ?_; rintro e9 w4 ⟨rfl, b9⟩; have V1 := hd (V1.out.keep b9); have HB := hd (step_b HB.out b9); clear b9)
    | (go_at_call 11; have h9 := HC0; clear HC0; refine (h9 _).out.mono ?_; clear h9; rintro e9 w5 ⟨rfl, b9⟩; have V1 := hd (V1.out.keep b9); have HB := hd (step_b HB.out b9); clear b9)
    | ((with_reducible refine gd_loadg (ty := 30) (x := .tmp 1) ?_); refine wpList_load_rowg rowT_sch V1.out rfl _ rfl (by rfl) rfl ?_)
    | (go_at_call 11; have h9 := HC1; clear HC1; refine (h9 _).out.mono ?_; clear h9; rintro e9 w6 ⟨rfl, b9⟩; have HB := hd (step_b HB.out b9); clear b9)
    | (go_at_call 18; refine (plain_any _).mono ?_; rintro e9 w7 ⟨rfl, b9⟩; have HB := hd (step_b HB.out b9); clear b9)
    | (go_at_call 17; refine (HRU _).out.mono ?_; rintro e9 w8 ⟨c8, rfl, hr8, _, b9⟩; have HR8 := hd hr8; have HB := hd (step_b HB.out b9); clear hr8 b9)
    | (go_at_call 16; refine (relem_some nmP_ne _).mono ?_; rintro e9 wa ⟨ga, rfl, hpa, _, b9⟩; have HPA := hd hpa; have HR8 := hd (HR8.out.later b9); have HB := hd (step_b HB.out b9); clear hpa b9)
    | (go_at_call 15; refine (HAC _ c8 ga HR8.out HPA.out).out.mono ?_; rintro e9 wb ⟨rfl, b9⟩; have HB := hd (step_b HB.out b9); clear b9))
  go_ret
  exact ⟨rfl, HB.out⟩

end Go.Proofs.Ytegaapeaeffgoaa
