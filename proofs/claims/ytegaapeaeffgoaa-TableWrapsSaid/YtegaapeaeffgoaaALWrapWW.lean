/- TableWraps answers true. -/
import Derived.Test.YtegaapeaeffgoaaJAFew
import Derived.Test.YtegaapeaeffgoaaJAFormed2
import Derived.Test.YtegaapeaeffgoaaJAAsk2
import Derived.Test.YtegaapeaeffgoaaJANames
import Derived.Test.YtegaapeaeffgoaaJARules
import Derived.Test.YtegaapeaeffgoaaARulesWW
import Derived.Maps.OwnSet
import Derived.Maps.OwnOps
import Derived.Maps.StringElems
import Derived.Maps.RangeWalk
import Derived.Shelf.Lays
import Derived.Test.YtegaapeaeffgoaaProg
import Derived.Test.YtegaapeaeffgoaaJAForm2
import Derived.Test.YtegaapeaeffgoaaJATextWW
import Derived.Test.YtegaapeaeffgoaaJPSpec
import Derived.OrdersHeld
import Derived.Shelf.Sort.Plain
import Derived.Sort.OwnSorted
import Derived.Sort.KeysCollected
import Derived.Test.YtegaapeaeffgoaaJASeek
import Derived.Deep.MidRow
import Derived.ProofKit
import Derived.Deep.Slices
import Derived.Laws.Strings
import Derived.Deep.QuietTactic
import Derived.BigQuiet
import Derived.Test.YtegaapeaeffgoaaJAOpen2
import Derived.IntWalk
import Derived.Laws.AppendOwnNone
import Derived.Lib.AppendZeros
import Derived.Lib.SliceRun
import Derived.StillTailTactics
import Derived.Deep.Cut
import Derived.Deep.RegionHeld3
import Derived.Deep.RegionLaw
import Derived.BigRegion
import Derived.Laws.Tables
import Derived.Lib.MinMax
namespace Go.Proofs.Ytegaapeaeffgoaa
open Go.RowKit

/-- What is asked of a node. -/
def askT (n : NT) : Option Nm := if n.lf then none else some (typeT false n.ps)
set_option maxRecDepth 4000 in
theorem has_q {w : World} {c : NC} {n : NT} (h : HasN w c n) : QAt w c (askT n) := by
  obtain ⟨d, h⟩ := h
  obtain ⟨d', lf, ps, tx, ks, PA, pc, TA, tc, KA, kc, hd, rfl, hv, hp, ht, hf, hks⟩ := h.open_
  obtain ⟨lf', P, np, pc', X, nt, tc', K, nk, kc'⟩ := c
  simp only [NC.row, Value.agg.injEq, Array.mk.injEq, List.cons.injEq, Value.bool.injEq, Value.slice.injEq, and_true] at hv
  obtain ⟨rfl, ⟨rfl, rfl, rfl⟩, _⟩ := hv
  refine ⟨?_, ps, rfl, by have := hf.2.1; show ps.length ≤ _; omega, hp, fun k hk => ?_⟩
  · show lf' = (askT (.mk lf' ps tx ks)).isNone
    unfold askT
    cases lf' <;> rfl
  · unfold askT at hk
    cases lf'
    · exact Option.some.inj hk
    · cases hk
set_option maxRecDepth 4000 in
theorem ask_form {s : SchT} {r : RuleT} (h : okSchA s = true) (hr : r ∈ allT s) (q : Option Nm) : formT (actQ r q) = true ∧ (q = none → (actQ r q).act ≠ 3) := by
  cases q with
  | none => exact ⟨(rule_forms (ok_rule h hr)).1, fun _ => (rule_forms (ok_rule h hr)).2.1⟩
  | some k => exact ⟨act_form (ok_rule h hr) k, fun h => by cases h⟩
set_option maxRecDepth 4000 in
theorem ask_wrap {s : SchT} {r : RuleT} (h : okSch s = true) (hr : r ∈ allT s) (q : Option Nm) (h4 : (actQ r q).act = 4) : (actQ r (some (actQ r q).ty)).act = 1 ∧ (actQ (ruleT s (actQ r q).ty) q).act = 1 := by
  have hw : wrapQ s r q = true := by
    cases q with
    | none => exact wrap_leaf h hr
    | some k => exact wrap_any h hr k
  unfold wrapQ at hw
  rw [h4] at hw
  simp only [bne_self_eq_false, Bool.false_or, Bool.and_eq_true] at hw
  exact ⟨by simpa [keepsT, actQ] using hw.1, by simpa [keepsQ] using hw.2⟩
set_option maxRecDepth 100000 in
set_option maxHeartbeats 16000000 in
theorem wraps_law {w : World} {c : ScC} {s : SchT} {nc : NC} {n : NT} (h : ScAt w c s) (hfit : ∀ r ∈ allT s, FitR r) (hby : (s.rules.length + 1) * 112 ≤ 140737488355328) (hn : HasN w nc n) : Calls Try.prog 4 #[.agg c.row, .agg nc.row] w (AllTrue w) := by
  obtain ⟨W0, hW, hb, v1, v3⟩ := arows2 w 30 41 c.row nc.row
  obtain ⟨F2, hF2⟩ : ∃ F2, fewB 60 n = F2 := ⟨_, rfl⟩
  have HFW := fun (W : World) (hb : Below w.heap.size w W) => hd (few15_any (h.later hb) hby)
  have HFN := fun (W : World) (hb : Below w.heap.size w W) => hd (show Calls Try.prog 13 #[.agg nc.row, .int .i64 60] W (Still (.bool F2) W) from by
    obtain ⟨d, hd⟩ := hn
    rw [← hF2]
    exact few_any d W _ _ 60 (by unfold In64; omega) (hd.later hb))
  have HCK := fun (W : World) (hb : Below w.heap.size w W) => hd (check_any15 (h.later hb) hfit)
  have HS := hd h
  have HQ := hd (has_q hn)
  have HALL := fun (W : World) (hb : Below w.heap.size w W) => hd (lall15_any (h.later hb) hby)
  have HW := hd hW
  have HB := hd hb
  have V1 := hd v1
  have V3 := hd v3
  clear h hfit hby hb v1 v3 hW hF2
  cases F2 with
  | false =>
    clear HCK HALL HS HQ
    go_enter Try.func4, Try.ntmps4
    go_upto_region 1 with fail
    rw [HW.out]
    go_wp2_with (first
      | (go_at_call 7; refine (live15_any _).mono ?_; rintro e9 w1 ⟨rfl, b9⟩; have V1 := hd (V1.out.keep b9); have V3 := hd (V3.out.keep b9); have HB := hd (step_b HB.out b9); clear b9)
      | ((with_reducible refine gd_load (ty := 30) (x := .tmp 2) ?_); refine wpList_load_row rowT_sch V1.out rfl _ rfl rfl rfl ?_)
      | ((with_reducible refine gd_loadg (ty := 30) (x := .tmp 2) ?_); refine wpList_load_rowg rowT_sch V1.out rfl _ rfl (by rfl) rfl ?_)
      | ((with_reducible refine gd_loadg (ty := 41) (x := .tmp 3) ?_); refine wpList_load_rowg rowT_node V3.out rfl _ rfl (by rfl) rfl ?_)
      | (go_at_call 8; refine (HFW _ HB.out).out.mono ?_; rintro e9 w2 ⟨_ | _, rfl, b9⟩ <;> (have V1 := hd (V1.out.keep b9); have V3 := hd (V3.out.keep b9); have HB := hd (step_b HB.out b9); clear b9))
      | (go_at_call 13; refine (HFN _ HB.out).out.mono ?_; rintro e9 w3 ⟨rfl, b9⟩; have V1 := hd (V1.out.keep b9); have V3 := hd (V3.out.keep b9); have HB := hd (step_b HB.out b9); clear b9)
      | (go_at_call 11; refine (HCK _ HB.out).out.mono ?_; rintro e9 w5 ⟨rfl, b9⟩; have V1 := hd (V1.out.keep b9); have V3 := hd (V3.out.keep b9); have HB := hd (step_b HB.out b9); clear b9))
    all_goals (go_ret; exact ⟨rfl, HB.out⟩)
  | true =>
    cases hok : okSch s with
    | false =>
      have HAE := hd (show ansE s = 12 by unfold ansE; rw [hok]; rfl)
      simp only [HAE.out] at HCK
      clear hok
      go_enter Try.func4, Try.ntmps4
      go_upto_region 1 with fail
      rw [HW.out]
      go_wp2_with (first
        | (go_at_call 7; refine (live15_any _).mono ?_; rintro e9 w1 ⟨rfl, b9⟩; have V1 := hd (V1.out.keep b9); have V3 := hd (V3.out.keep b9); have HB := hd (step_b HB.out b9); clear b9)
        | ((with_reducible refine gd_load (ty := 30) (x := .tmp 2) ?_); refine wpList_load_row rowT_sch V1.out rfl _ rfl rfl rfl ?_)
        | ((with_reducible refine gd_loadg (ty := 30) (x := .tmp 2) ?_); refine wpList_load_rowg rowT_sch V1.out rfl _ rfl (by rfl) rfl ?_)
        | ((with_reducible refine gd_loadg (ty := 41) (x := .tmp 3) ?_); refine wpList_load_rowg rowT_node V3.out rfl _ rfl (by rfl) rfl ?_)
        | (go_at_call 8; refine (HFW _ HB.out).out.mono ?_; rintro e9 w2 ⟨_ | _, rfl, b9⟩ <;> (have V1 := hd (V1.out.keep b9); have V3 := hd (V3.out.keep b9); have HB := hd (step_b HB.out b9); clear b9))
        | (go_at_call 13; refine (HFN _ HB.out).out.mono ?_; rintro e9 w3 ⟨rfl, b9⟩; have V1 := hd (V1.out.keep b9); have V3 := hd (V3.out.keep b9); have HB := hd (step_b HB.out b9); clear b9)
        | (go_at_call 11; refine (HCK _ HB.out).out.mono ?_; rintro e9 w5 ⟨rfl, b9⟩; have V1 := hd (V1.out.keep b9); have V3 := hd (V3.out.keep b9); have HB := hd (step_b HB.out b9); clear b9))
      all_goals (go_ret; exact ⟨rfl, HB.out⟩)
    | true =>
      have HAE := hd (show ansE s = 0 by unfold ansE; rw [hok]; rfl)
      simp only [HAE.out] at HCK
      have hA : okSchA s = true := by unfold okSch at hok; rw [Bool.and_eq_true] at hok; exact hok.1
      have HOK := hd hok
      have HOA := hd hA
      have hl := okA_rules hA
      have HRU := fun (W : World) (hb : Below w.heap.size w W) (k : Nm) => hd (rule_any (k := k) (HS.out.later hb) (by omega) (E := ruleT s k) rfl (by have := okA_kids hA (ruleT_mem s k); omega))
      have hLN : (allT s).length = s.rules.length + 1 := by simp [allT]
      have HLN := hd hLN
      clear hok hA hLN
      go_enter Try.func4, Try.ntmps4
      go_upto_region 1 with fail
      rw [HW.out]
      go_upto_region 5 with (first
        | (go_at_call 7; refine (live15_any _).mono ?_; rintro e9 w1 ⟨rfl, b9⟩; have V1 := hd (V1.out.keep b9); have V3 := hd (V3.out.keep b9); have HB := hd (step_b HB.out b9); clear b9)
        | ((with_reducible refine gd_load (ty := 30) (x := .tmp 2) ?_); refine wpList_load_row rowT_sch V1.out rfl _ rfl rfl rfl ?_)
        | ((with_reducible refine gd_loadg (ty := 30) (x := .tmp 2) ?_); refine wpList_load_rowg rowT_sch V1.out rfl _ rfl (by rfl) rfl ?_)
        | ((with_reducible refine gd_loadg (ty := 41) (x := .tmp 3) ?_); refine wpList_load_rowg rowT_node V3.out rfl _ rfl (by rfl) rfl ?_)
        | (go_at_call 8; refine (HFW _ HB.out).out.mono ?_; rintro e9 w2 ⟨_ | _, rfl, b9⟩ <;> (have V1 := hd (V1.out.keep b9); have V3 := hd (V3.out.keep b9); have HB := hd (step_b HB.out b9); clear b9))
        | (go_at_call 13; refine (HFN _ HB.out).out.mono ?_; rintro e9 w3 ⟨rfl, b9⟩; have V1 := hd (V1.out.keep b9); have V3 := hd (V3.out.keep b9); have HB := hd (step_b HB.out b9); clear b9)
        | (go_at_call 11; refine (HCK _ HB.out).out.mono ?_; rintro e9 w5 ⟨rfl, b9⟩; have V1 := hd (V1.out.keep b9); have V3 := hd (V3.out.keep b9); have HB := hd (step_b HB.out b9); clear b9))
      all_goals first | (go_ret; exact ⟨rfl, HB.out⟩) | skip
      go_wp2_with (first
        | ((with_reducible refine gd_load (ty := 30) (x := .tmp 2) ?_); refine wpList_load_row rowT_sch V1.out rfl _ rfl rfl rfl ?_)
        | (go_at_call 14; refine (HALL _ HB.out).out.mono ?_; rintro e9 w4 ⟨A4, n4, c4, ds, rfl, hn4, hu4, b9⟩; have HU := hd hu4; have HN4 := hd hn4; have V1 := hd (V1.out.keep b9); have V3 := hd (V3.out.keep b9); have HB := hd (step_b HB.out b9); clear hn4 hu4 b9))
      have hn33 : n4 ≤ 33 := by have h1 := HN4.out; have h2 := HLN.out; omega
      go_loopw [26] (fun i wr => ∃ k : Nat, k ≤ n4 ∧ i = .int .i64 k ∧ Hid (Below w4.heap.size w4 wr)) (fun i _ => n4 - (intOf i).toNat)
      case atStart => exact ⟨0, Nat.zero_le _, rfl, hd (Below.refl _ _)⟩
      case round =>
        obtain ⟨k, hk1, rfl, HB4⟩ := hrel
        by_cases hlt : k < n4
        · have hlt2 : k < (allT s).length := by rw [HN4.out]; exact hlt
          obtain ⟨b, o, hR, hbl, hrg⟩ := (rowA_rules HN4.out (HU.out.later HB4.out)).2 k hlt
          obtain rfl : A4 = some ⟨b, o, none⟩ := hR
          obtain ⟨p, hp⟩ : ∃ p, ruAt ds k = p := ⟨_, rfl⟩
          obtain ⟨r, hr⟩ : ∃ r, rulAt (allT s) k = r := ⟨_, rfl⟩
          have hmem : r ∈ allT s := by rw [← hr, rulAt_mem hlt2]; exact List.getElem_mem _
          have hru : ∀ W, Below w4.heap.size w4 W → RuAt W p r := fun W hb => by
            have h1 := (HU.out.later hb).ru hlt2
            rw [hp, hr] at h1
            exact h1
          simp only [hp] at hrg
          have HRG := hd hrg
          have hkl : r.kids.length ≤ 10000 := by have := okA_kids HOA.out hmem; omega
          obtain ⟨W6, hW6⟩ : ∃ W6, wr.alloc (.cells p.row 27) = W6 := ⟨_, rfl⟩
          obtain ⟨g6, hg6⟩ : ∃ g6, wr.heap.size = g6 := ⟨_, rfl⟩
          have hb6 : Below wr.heap.size wr W6 := hW6 ▸ (Below.refl _ _).alloc (Nat.le_refl _) _
          have V6 := hd (show VarR 27 W6 g6 p.row by rw [← hW6, ← hg6]; exact VarR.new wr _ _)
          have V1b := hd ((V1.out.keep HB4.out).keep hb6)
          have V3b := hd ((V3.out.keep HB4.out).keep hb6)
          have HBb := hd (step_b (step_b HB.out HB4.out) hb6)
          have HBQb := hd (step_b HB4.out hb6)
          have HW6 := hd hW6
          have HG6 := hd hg6
          obtain ⟨a, ha⟩ : ∃ a, actQ r (askT n) = a := ⟨_, rfl⟩
          have hact := act_any (hru _ HBQb.out) hkl (HQ.out.later HBb.out) ha
          have hff := ask_form HOA.out hmem (askT n)
          have hwr := ask_wrap HOK.out hmem (askT n)
          rw [ha] at hff hwr
          have hfo := form_ok hff.1
          have hl3 : nc.lf = true → a.act ≠ 3 := fun e => hff.2 (by
            have h1 : nc.lf = (askT n).isNone := HQ.out.lf
            rw [e] at h1
            cases h2 : askT n
            · rfl
            · rw [h2] at h1; cases h1)
          obtain ⟨an, aty⟩ := a
          have HAC := hd hact
          have hr1 : 1 ≤ an ∧ an ≤ 4 := hfo.1
          have hr2 : (aty ≠ noN) ↔ an = 4 := hfo.2
          have hl4 : nc.lf = true → an ≠ 3 := hl3
          have hw4 : an = 4 → (actQ r (some aty)).act = 1 ∧ (actQ (ruleT s aty) (askT n)).act = 1 := hwr
          clear hact hff hwr hfo hl3 ha hb6 hW6 hg6 hrg hp hr hbl
          obtain ⟨l, hlf⟩ : ∃ l, nc.lf = l := ⟨_, rfl⟩
          rw [hlf] at hl4
          have hcs : an = 1 ∨ an = 2 ∨ an = 3 ∨ an = 4 := by omega
          rcases hcs with rfl | rfl | rfl | rfl
          · obtain rfl : aty = ⟨#[]⟩ := Classical.not_not.1 fun h => absurd (hr2.1 h) (by decide)
            clear hr1 hr2 hl4 hw4 hru hmem hkl
            cases l
            · skip
              go_upto_region 8 with (first
                | ((with_reducible refine gd_load (ty := 27) (x := .tmp 28) ?_); refine wpList_load_at rowT_rule (r := p.row) HRG.out rfl _ rfl rfl rfl ?_)
                | ((with_reducible refine gd_store (ty := 27) (x := .tmp 6) ?_); refine wpList_store_new rowT_rule (r := p.row) rfl rfl p.one _ _ rfl rfl rfl rfl rfl rfl ?_))
              rw [HW6.out, HG6.out]
              go_upto_region 9 with (first
                | ((with_reducible refine gd_load (ty := 27) (x := .tmp 6) ?_); refine wpList_load_row rowT_rule V6.out rfl _ rfl rfl rfl ?_)
                | ((with_reducible refine gd_load (ty := 41) (x := .tmp 3) ?_); refine wpList_load_row rowT_node V3b.out rfl _ rfl rfl rfl ?_)
                | (go_at_call 15; refine HAC.out.mono ?_; rintro e9 w7 ⟨rfl, b9⟩; have V1c := hd (V1b.out.keep b9); have V6c := hd (V6.out.keep b9); have V3c := hd (V3b.out.keep b9); have HBc := hd (step_b HBb.out b9); have HBQc := hd (step_b HBQb.out b9); clear b9)
                | ((with_reducible refine gd_store (ty := 24) (x := .tmp 7) ?_); refine wpList_store_new rowT_act (r := #[.int .i64 (1), .string (⟨#[]⟩ : Nm)]) rfl rfl (act_one _ _) _ _ rfl rfl rfl rfl rfl rfl ?_))
              obtain ⟨g7, hg7⟩ : ∃ g7, w7.heap.size = g7 := ⟨_, rfl⟩
              obtain ⟨W8, hW8⟩ : ∃ W8, w7.alloc (.cells #[.int .i64 (1), .string (⟨#[]⟩ : Nm)] 24) = W8 := ⟨_, rfl⟩
              have hb8 : Below w7.heap.size w7 W8 := hW8 ▸ (Below.refl _ _).alloc (Nat.le_refl _) _
              have HIK := hd (show InK w w.heap.size g6 (w.heap.size + 1) g7 c.row p.row nc.row #[.int .i64 (1), .string (⟨#[]⟩ : Nm)] W8 from ⟨step_b HBc.out hb8, V1c.out.keep hb8, V6c.out.keep hb8, V3c.out.keep hb8, by rw [← hW8, ← hg7]; exact VarR.new w7 _ _⟩)
              have HBQ8 := hd (step_b HBQc.out hb8)
              rw [hW8, hg7]
              clear hg7 hW8 hb8 V1c V6c V3c HBc HBQc
              have y0 : W8.cell? ⟨g7, 0, none⟩ = some (.int .i64 (1)) := HIK.out.2.2.2.2.cell 0 _ rfl
              have y1 : W8.cell? ⟨g7, 1, none⟩ = some (.string (⟨#[]⟩ : Nm)) := HIK.out.2.2.2.2.cell 1 _ rfl
              have y3 : W8.cell? ⟨w.heap.size + 1, 0, none⟩ = some (.bool false) := by rw [← hlf]; exact HIK.out.2.2.2.1.cell 0 _ rfl
              clear hlf
              go_wp2_with fail
              go_roundw
              case rel => exact ⟨k + 1, by omega, by go_num, HBQ8⟩
              case measure => simp [intOf]; omega
            · skip
              go_upto_region 8 with (first
                | ((with_reducible refine gd_load (ty := 27) (x := .tmp 28) ?_); refine wpList_load_at rowT_rule (r := p.row) HRG.out rfl _ rfl rfl rfl ?_)
                | ((with_reducible refine gd_store (ty := 27) (x := .tmp 6) ?_); refine wpList_store_new rowT_rule (r := p.row) rfl rfl p.one _ _ rfl rfl rfl rfl rfl rfl ?_))
              rw [HW6.out, HG6.out]
              go_upto_region 9 with (first
                | ((with_reducible refine gd_load (ty := 27) (x := .tmp 6) ?_); refine wpList_load_row rowT_rule V6.out rfl _ rfl rfl rfl ?_)
                | ((with_reducible refine gd_load (ty := 41) (x := .tmp 3) ?_); refine wpList_load_row rowT_node V3b.out rfl _ rfl rfl rfl ?_)
                | (go_at_call 15; refine HAC.out.mono ?_; rintro e9 w7 ⟨rfl, b9⟩; have V1c := hd (V1b.out.keep b9); have V6c := hd (V6.out.keep b9); have V3c := hd (V3b.out.keep b9); have HBc := hd (step_b HBb.out b9); have HBQc := hd (step_b HBQb.out b9); clear b9)
                | ((with_reducible refine gd_store (ty := 24) (x := .tmp 7) ?_); refine wpList_store_new rowT_act (r := #[.int .i64 (1), .string (⟨#[]⟩ : Nm)]) rfl rfl (act_one _ _) _ _ rfl rfl rfl rfl rfl rfl ?_))
              obtain ⟨g7, hg7⟩ : ∃ g7, w7.heap.size = g7 := ⟨_, rfl⟩
              obtain ⟨W8, hW8⟩ : ∃ W8, w7.alloc (.cells #[.int .i64 (1), .string (⟨#[]⟩ : Nm)] 24) = W8 := ⟨_, rfl⟩
              have hb8 : Below w7.heap.size w7 W8 := hW8 ▸ (Below.refl _ _).alloc (Nat.le_refl _) _
              have HIK := hd (show InK w w.heap.size g6 (w.heap.size + 1) g7 c.row p.row nc.row #[.int .i64 (1), .string (⟨#[]⟩ : Nm)] W8 from ⟨step_b HBc.out hb8, V1c.out.keep hb8, V6c.out.keep hb8, V3c.out.keep hb8, by rw [← hW8, ← hg7]; exact VarR.new w7 _ _⟩)
              have HBQ8 := hd (step_b HBQc.out hb8)
              rw [hW8, hg7]
              clear hg7 hW8 hb8 V1c V6c V3c HBc HBQc
              have y0 : W8.cell? ⟨g7, 0, none⟩ = some (.int .i64 (1)) := HIK.out.2.2.2.2.cell 0 _ rfl
              have y1 : W8.cell? ⟨g7, 1, none⟩ = some (.string (⟨#[]⟩ : Nm)) := HIK.out.2.2.2.2.cell 1 _ rfl
              have y3 : W8.cell? ⟨w.heap.size + 1, 0, none⟩ = some (.bool true) := by rw [← hlf]; exact HIK.out.2.2.2.1.cell 0 _ rfl
              clear hlf
              go_wp2_with fail
              go_roundw
              case rel => exact ⟨k + 1, by omega, by go_num, HBQ8⟩
              case measure => simp [intOf]; omega
          · obtain rfl : aty = ⟨#[]⟩ := Classical.not_not.1 fun h => absurd (hr2.1 h) (by decide)
            clear hr1 hr2 hl4 hw4 hru hmem hkl
            cases l
            · skip
              go_upto_region 8 with (first
                | ((with_reducible refine gd_load (ty := 27) (x := .tmp 28) ?_); refine wpList_load_at rowT_rule (r := p.row) HRG.out rfl _ rfl rfl rfl ?_)
                | ((with_reducible refine gd_store (ty := 27) (x := .tmp 6) ?_); refine wpList_store_new rowT_rule (r := p.row) rfl rfl p.one _ _ rfl rfl rfl rfl rfl rfl ?_))
              rw [HW6.out, HG6.out]
              go_upto_region 9 with (first
                | ((with_reducible refine gd_load (ty := 27) (x := .tmp 6) ?_); refine wpList_load_row rowT_rule V6.out rfl _ rfl rfl rfl ?_)
                | ((with_reducible refine gd_load (ty := 41) (x := .tmp 3) ?_); refine wpList_load_row rowT_node V3b.out rfl _ rfl rfl rfl ?_)
                | (go_at_call 15; refine HAC.out.mono ?_; rintro e9 w7 ⟨rfl, b9⟩; have V1c := hd (V1b.out.keep b9); have V6c := hd (V6.out.keep b9); have V3c := hd (V3b.out.keep b9); have HBc := hd (step_b HBb.out b9); have HBQc := hd (step_b HBQb.out b9); clear b9)
                | ((with_reducible refine gd_store (ty := 24) (x := .tmp 7) ?_); refine wpList_store_new rowT_act (r := #[.int .i64 (2), .string (⟨#[]⟩ : Nm)]) rfl rfl (act_one _ _) _ _ rfl rfl rfl rfl rfl rfl ?_))
              obtain ⟨g7, hg7⟩ : ∃ g7, w7.heap.size = g7 := ⟨_, rfl⟩
              obtain ⟨W8, hW8⟩ : ∃ W8, w7.alloc (.cells #[.int .i64 (2), .string (⟨#[]⟩ : Nm)] 24) = W8 := ⟨_, rfl⟩
              have hb8 : Below w7.heap.size w7 W8 := hW8 ▸ (Below.refl _ _).alloc (Nat.le_refl _) _
              have HIK := hd (show InK w w.heap.size g6 (w.heap.size + 1) g7 c.row p.row nc.row #[.int .i64 (2), .string (⟨#[]⟩ : Nm)] W8 from ⟨step_b HBc.out hb8, V1c.out.keep hb8, V6c.out.keep hb8, V3c.out.keep hb8, by rw [← hW8, ← hg7]; exact VarR.new w7 _ _⟩)
              have HBQ8 := hd (step_b HBQc.out hb8)
              rw [hW8, hg7]
              clear hg7 hW8 hb8 V1c V6c V3c HBc HBQc
              have y0 : W8.cell? ⟨g7, 0, none⟩ = some (.int .i64 (2)) := HIK.out.2.2.2.2.cell 0 _ rfl
              have y1 : W8.cell? ⟨g7, 1, none⟩ = some (.string (⟨#[]⟩ : Nm)) := HIK.out.2.2.2.2.cell 1 _ rfl
              have y3 : W8.cell? ⟨w.heap.size + 1, 0, none⟩ = some (.bool false) := by rw [← hlf]; exact HIK.out.2.2.2.1.cell 0 _ rfl
              clear hlf
              go_wp2_with fail
              go_roundw
              case rel => exact ⟨k + 1, by omega, by go_num, HBQ8⟩
              case measure => simp [intOf]; omega
            · skip
              go_upto_region 8 with (first
                | ((with_reducible refine gd_load (ty := 27) (x := .tmp 28) ?_); refine wpList_load_at rowT_rule (r := p.row) HRG.out rfl _ rfl rfl rfl ?_)
                | ((with_reducible refine gd_store (ty := 27) (x := .tmp 6) ?_); refine wpList_store_new rowT_rule (r := p.row) rfl rfl p.one _ _ rfl rfl rfl rfl rfl rfl ?_))
              rw [HW6.out, HG6.out]
              go_upto_region 9 with (first
                | ((with_reducible refine gd_load (ty := 27) (x := .tmp 6) ?_); refine wpList_load_row rowT_rule V6.out rfl _ rfl rfl rfl ?_)
                | ((with_reducible refine gd_load (ty := 41) (x := .tmp 3) ?_); refine wpList_load_row rowT_node V3b.out rfl _ rfl rfl rfl ?_)
                | (go_at_call 15; refine HAC.out.mono ?_; rintro e9 w7 ⟨rfl, b9⟩; have V1c := hd (V1b.out.keep b9); have V6c := hd (V6.out.keep b9); have V3c := hd (V3b.out.keep b9); have HBc := hd (step_b HBb.out b9); have HBQc := hd (step_b HBQb.out b9); clear b9)
                | ((with_reducible refine gd_store (ty := 24) (x := .tmp 7) ?_); refine wpList_store_new rowT_act (r := #[.int .i64 (2), .string (⟨#[]⟩ : Nm)]) rfl rfl (act_one _ _) _ _ rfl rfl rfl rfl rfl rfl ?_))
              obtain ⟨g7, hg7⟩ : ∃ g7, w7.heap.size = g7 := ⟨_, rfl⟩
              obtain ⟨W8, hW8⟩ : ∃ W8, w7.alloc (.cells #[.int .i64 (2), .string (⟨#[]⟩ : Nm)] 24) = W8 := ⟨_, rfl⟩
              have hb8 : Below w7.heap.size w7 W8 := hW8 ▸ (Below.refl _ _).alloc (Nat.le_refl _) _
              have HIK := hd (show InK w w.heap.size g6 (w.heap.size + 1) g7 c.row p.row nc.row #[.int .i64 (2), .string (⟨#[]⟩ : Nm)] W8 from ⟨step_b HBc.out hb8, V1c.out.keep hb8, V6c.out.keep hb8, V3c.out.keep hb8, by rw [← hW8, ← hg7]; exact VarR.new w7 _ _⟩)
              have HBQ8 := hd (step_b HBQc.out hb8)
              rw [hW8, hg7]
              clear hg7 hW8 hb8 V1c V6c V3c HBc HBQc
              have y0 : W8.cell? ⟨g7, 0, none⟩ = some (.int .i64 (2)) := HIK.out.2.2.2.2.cell 0 _ rfl
              have y1 : W8.cell? ⟨g7, 1, none⟩ = some (.string (⟨#[]⟩ : Nm)) := HIK.out.2.2.2.2.cell 1 _ rfl
              have y3 : W8.cell? ⟨w.heap.size + 1, 0, none⟩ = some (.bool true) := by rw [← hlf]; exact HIK.out.2.2.2.1.cell 0 _ rfl
              clear hlf
              go_wp2_with fail
              go_roundw
              case rel => exact ⟨k + 1, by omega, by go_num, HBQ8⟩
              case measure => simp [intOf]; omega
          · obtain rfl : aty = ⟨#[]⟩ := Classical.not_not.1 fun h => absurd (hr2.1 h) (by decide)
            cases l
            · clear hr1 hr2 hl4 hw4 hru hmem hkl
              go_upto_region 8 with (first
                | ((with_reducible refine gd_load (ty := 27) (x := .tmp 28) ?_); refine wpList_load_at rowT_rule (r := p.row) HRG.out rfl _ rfl rfl rfl ?_)
                | ((with_reducible refine gd_store (ty := 27) (x := .tmp 6) ?_); refine wpList_store_new rowT_rule (r := p.row) rfl rfl p.one _ _ rfl rfl rfl rfl rfl rfl ?_))
              rw [HW6.out, HG6.out]
              go_upto_region 9 with (first
                | ((with_reducible refine gd_load (ty := 27) (x := .tmp 6) ?_); refine wpList_load_row rowT_rule V6.out rfl _ rfl rfl rfl ?_)
                | ((with_reducible refine gd_load (ty := 41) (x := .tmp 3) ?_); refine wpList_load_row rowT_node V3b.out rfl _ rfl rfl rfl ?_)
                | (go_at_call 15; refine HAC.out.mono ?_; rintro e9 w7 ⟨rfl, b9⟩; have V1c := hd (V1b.out.keep b9); have V6c := hd (V6.out.keep b9); have V3c := hd (V3b.out.keep b9); have HBc := hd (step_b HBb.out b9); have HBQc := hd (step_b HBQb.out b9); clear b9)
                | ((with_reducible refine gd_store (ty := 24) (x := .tmp 7) ?_); refine wpList_store_new rowT_act (r := #[.int .i64 (3), .string (⟨#[]⟩ : Nm)]) rfl rfl (act_one _ _) _ _ rfl rfl rfl rfl rfl rfl ?_))
              obtain ⟨g7, hg7⟩ : ∃ g7, w7.heap.size = g7 := ⟨_, rfl⟩
              obtain ⟨W8, hW8⟩ : ∃ W8, w7.alloc (.cells #[.int .i64 (3), .string (⟨#[]⟩ : Nm)] 24) = W8 := ⟨_, rfl⟩
              have hb8 : Below w7.heap.size w7 W8 := hW8 ▸ (Below.refl _ _).alloc (Nat.le_refl _) _
              have HIK := hd (show InK w w.heap.size g6 (w.heap.size + 1) g7 c.row p.row nc.row #[.int .i64 (3), .string (⟨#[]⟩ : Nm)] W8 from ⟨step_b HBc.out hb8, V1c.out.keep hb8, V6c.out.keep hb8, V3c.out.keep hb8, by rw [← hW8, ← hg7]; exact VarR.new w7 _ _⟩)
              have HBQ8 := hd (step_b HBQc.out hb8)
              rw [hW8, hg7]
              clear hg7 hW8 hb8 V1c V6c V3c HBc HBQc
              have y0 : W8.cell? ⟨g7, 0, none⟩ = some (.int .i64 (3)) := HIK.out.2.2.2.2.cell 0 _ rfl
              have y1 : W8.cell? ⟨g7, 1, none⟩ = some (.string (⟨#[]⟩ : Nm)) := HIK.out.2.2.2.2.cell 1 _ rfl
              have y3 : W8.cell? ⟨w.heap.size + 1, 0, none⟩ = some (.bool false) := by rw [← hlf]; exact HIK.out.2.2.2.1.cell 0 _ rfl
              clear hlf
              go_wp2_with fail
              go_roundw
              case rel => exact ⟨k + 1, by omega, by go_num, HBQ8⟩
              case measure => simp [intOf]; omega
            · exact absurd rfl (hl4 rfl)
          · have HNN := hd (hr2.2 rfl)
            obtain ⟨hw1, hw2⟩ := hw4 rfl
            obtain ⟨x1, hx1⟩ : ∃ x, (actQ r (some aty)).ty = x := ⟨_, rfl⟩
            obtain ⟨x2, hx2⟩ : ∃ x, (actQ (ruleT s aty) (askT n)).ty = x := ⟨_, rfl⟩
            have he1 : actQ r (some aty) = ⟨1, x1⟩ := by rw [← hx1, ← hw1]
            have he2 : actQ (ruleT s aty) (askT n) = ⟨1, x2⟩ := by rw [← hx2, ← hw2]
            have hk2 : (ruleT s aty).kids.length ≤ 10000 := by have := okA_kids HOA.out (ruleT_mem s aty); omega
            have HA1 := fun (W : World) (hb : Below w4.heap.size w4 W) (ge : Nat) (hp : PL W W.heap.size (some ⟨ge, 0, none⟩) [(tyKey, aty)]) => hd (act_any (hru W hb) hkl (elC_at hp) he1)
            have HA2 := fun (W : World) (x : RuC) (hx : RuAt W x (ruleT s aty)) (hb : Below w.heap.size w W) => hd (act_any hx hk2 (HQ.out.later hb) he2)
            have hf1 := run_act_0 1 x1
            have hf2 := run_act_0 1 x2
            have ha0 : aty.toList ≠ [] := fun h => HNN.out (nm_inj (by rw [h, noN_list]))
            have ha1 : aty.toList.isEmpty = false := by
              cases h : aty.toList with
              | nil => exact absurd h ha0
              | cons => rfl
            clear hr1 hr2 hl4 hw4 hru hmem hkl hw1 hw2 hx1 hx2 he1 he2 hk2
            cases l
            · skip
              go_upto_region 8 with (first
                | ((with_reducible refine gd_load (ty := 27) (x := .tmp 28) ?_); refine wpList_load_at rowT_rule (r := p.row) HRG.out rfl _ rfl rfl rfl ?_)
                | ((with_reducible refine gd_store (ty := 27) (x := .tmp 6) ?_); refine wpList_store_new rowT_rule (r := p.row) rfl rfl p.one _ _ rfl rfl rfl rfl rfl rfl ?_))
              rw [HW6.out, HG6.out]
              go_upto_region 9 with (first
                | ((with_reducible refine gd_load (ty := 27) (x := .tmp 6) ?_); refine wpList_load_row rowT_rule V6.out rfl _ rfl rfl rfl ?_)
                | ((with_reducible refine gd_load (ty := 41) (x := .tmp 3) ?_); refine wpList_load_row rowT_node V3b.out rfl _ rfl rfl rfl ?_)
                | (go_at_call 15; refine HAC.out.mono ?_; rintro e9 w7 ⟨rfl, b9⟩; have V1c := hd (V1b.out.keep b9); have V6c := hd (V6.out.keep b9); have V3c := hd (V3b.out.keep b9); have HBc := hd (step_b HBb.out b9); have HBQc := hd (step_b HBQb.out b9); clear b9)
                | ((with_reducible refine gd_store (ty := 24) (x := .tmp 7) ?_); refine wpList_store_new rowT_act (r := #[.int .i64 (4), .string aty]) rfl rfl (act_one _ _) _ _ rfl rfl rfl rfl rfl rfl ?_))
              obtain ⟨g7, hg7⟩ : ∃ g7, w7.heap.size = g7 := ⟨_, rfl⟩
              obtain ⟨W8, hW8⟩ : ∃ W8, w7.alloc (.cells #[.int .i64 (4), .string aty] 24) = W8 := ⟨_, rfl⟩
              have hb8 : Below w7.heap.size w7 W8 := hW8 ▸ (Below.refl _ _).alloc (Nat.le_refl _) _
              have HIK := hd (show InK w w.heap.size g6 (w.heap.size + 1) g7 c.row p.row nc.row #[.int .i64 (4), .string aty] W8 from ⟨step_b HBc.out hb8, V1c.out.keep hb8, V6c.out.keep hb8, V3c.out.keep hb8, by rw [← hW8, ← hg7]; exact VarR.new w7 _ _⟩)
              have HBQ8 := hd (step_b HBQc.out hb8)
              rw [hW8, hg7]
              clear hg7 hW8 hb8 V1c V6c V3c HBc HBQc
              have y0 : W8.cell? ⟨g7, 0, none⟩ = some (.int .i64 (4)) := HIK.out.2.2.2.2.cell 0 _ rfl
              have y1 : W8.cell? ⟨g7, 1, none⟩ = some (.string aty) := HIK.out.2.2.2.2.cell 1 _ rfl
              have y3 : W8.cell? ⟨w.heap.size + 1, 0, none⟩ = some (.bool false) := by rw [← hlf]; exact HIK.out.2.2.2.1.cell 0 _ rfl
              clear hlf
              go_upto_region 12 with fail
              clear y0 y1 y3 ha0 ha1
              have HSS := hd (show InK w w.heap.size g6 (w.heap.size + 1) g7 c.row p.row nc.row #[.int .i64 4, .string aty] W8.drew ∧ Below w4.heap.size w4 W8.drew from ⟨HIK.out.keep (Below.refl _ _).drew, HBQ8.out.drew⟩)
              refine Y_start (S := fun W => InK w w.heap.size g6 (w.heap.size + 1) g7 c.row p.row nc.row #[.int .i64 4, .string aty] W ∧ Below w4.heap.size w4 W) (z := fun _ => false) (by kernel_rfl) ?_
              refine Y_take (i := 0) (n := 16) (.agg p.row) rfl (by kernel_rfl) (by kernel_rfl) (by kernel_rfl) (by kernel_rfl) (fun _ _ _ h => h) (by rfl) (fun W9 hW9 => ?_) HSS.out ?_
              · exact exec_load_at rowT_rule (r := p.row) (hW9.1.2.2.1.range 0 _ (fun j v h => by simpa using h)) rfl _ rfl rfl
              simp only [Act.put, List.setIfInBounds_toArray, List.set_cons_succ, List.set_cons_zero, List.getElem_toArray, List.getElem_cons_zero]
              refine Y_take (i := 1) (n := 15) (.pointer (some ⟨g7, 1, none⟩)) rfl (by kernel_rfl) (by kernel_rfl) (by kernel_rfl) (by kernel_rfl) (fun _ _ _ h => h) (by rfl) (fun W9 hW9 => ?_) HSS.out ?_
              · go_simp
              simp only [Act.put, List.setIfInBounds_toArray, List.set_cons_succ, List.set_cons_zero, List.getElem_toArray, List.getElem_cons_succ, List.getElem_cons_zero]
              refine Y_take (i := 2) (n := 14) (.string aty) rfl (by kernel_rfl) (by kernel_rfl) (by kernel_rfl) (by kernel_rfl) (fun _ _ _ h => h) (by rfl) (fun W9 hW9 => ?_) HSS.out ?_
              · have l0 : W9.cell? ⟨g7, 1, none⟩ = some (.string aty) := hW9.1.2.2.2.2.cell 1 _ rfl
                clear hW9
                go_simp
              simp only [Act.put, List.setIfInBounds_toArray, List.set_cons_succ, List.set_cons_zero, List.getElem_toArray, List.getElem_cons_succ, List.getElem_cons_zero]
              refine Y_one (i := 3) (n := 13) (by kernel_rfl) rfl (fun K hK => ?_)
              rw [if_pos (by rfl)]
              go_simp
              go_at_call 16
              refine (relem_some HNN.out _).mono ?_
              rintro e9 wa ⟨ge, rfl, hpe, hge, b9⟩
              have HPE := hd hpe
              have HSS := hd (And.intro (HSS.out.1.keep b9) (step_b HSS.out.2 b9))
              clear hpe hge b9
              refine hK _ _ (fun _ => HSS.out) ?_
              clear hK K
              refine Y_one (i := 4) (n := 12) (by kernel_rfl) rfl (fun K hK => ?_)
              rw [if_pos (by rfl)]
              go_simp
              go_at_call 15
              refine (HA1 _ HSS.out.2 ge HPE.out).out.mono ?_
              rintro e9 wb ⟨rfl, b9⟩
              have HSS := hd (And.intro (HSS.out.1.keep b9) (step_b HSS.out.2 b9))
              clear b9
              refine hK _ _ (fun _ => HSS.out) ?_
              clear hK K
              refine Y_take (i := 5) (n := 11) (.int .i64 1) rfl (by kernel_rfl) (by kernel_rfl) (by kernel_rfl) (by kernel_rfl) (fun _ _ _ h => h) (by rfl) (fun W9 hW9 => ?_) HSS.out ?_
              · go_simp
              simp only [Act.put, List.setIfInBounds_toArray, List.set_cons_succ, List.set_cons_zero, List.getElem_toArray, List.getElem_cons_succ, List.getElem_cons_zero]
              refine Y_take (i := 6) (n := 10) (.bool false) rfl (by kernel_rfl) (by kernel_rfl) (by kernel_rfl) (by kernel_rfl) (fun _ _ _ h => h) (by rfl) (fun W9 hW9 => ?_) HSS.out ?_
              · go_simp
              simp only [Act.put, List.setIfInBounds_toArray, List.set_cons_succ, List.set_cons_zero, List.getElem_toArray, List.getElem_cons_succ, List.getElem_cons_zero]
              refine Y_take (i := 7) (n := 9) (.bool false) rfl (by kernel_rfl) (by kernel_rfl) (by kernel_rfl) (by kernel_rfl) (fun _ _ _ h => h) (by rfl) (fun W9 hW9 => ?_) HSS.out ?_
              · go_simp
              simp only [Act.put, List.setIfInBounds_toArray, List.set_cons_succ, List.set_cons_zero, List.getElem_toArray, List.getElem_cons_succ, List.getElem_cons_zero]
              refine Y_take (i := 8) (n := 8) (.agg c.row) rfl (by kernel_rfl) (by kernel_rfl) (by kernel_rfl) (by kernel_rfl) (fun _ _ _ h => h) (by rfl) (fun W9 hW9 => ?_) HSS.out ?_
              · exact exec_load_at rowT_sch (r := c.row) (hW9.1.2.1.range 0 _ (fun j v h => by simpa using h)) rfl _ rfl rfl
              simp only [Act.put, List.setIfInBounds_toArray, List.set_cons_succ, List.set_cons_zero, List.getElem_toArray, List.getElem_cons_succ, List.getElem_cons_zero]
              refine Y_take (i := 9) (n := 7) (.pointer (some ⟨g7, 1, none⟩)) rfl (by kernel_rfl) (by kernel_rfl) (by kernel_rfl) (by kernel_rfl) (fun _ _ _ h => h) (by rfl) (fun W9 hW9 => ?_) HSS.out ?_
              · go_simp
              simp only [Act.put, List.setIfInBounds_toArray, List.set_cons_succ, List.set_cons_zero, List.getElem_toArray, List.getElem_cons_succ, List.getElem_cons_zero]
              refine Y_take (i := 10) (n := 6) (.string aty) rfl (by kernel_rfl) (by kernel_rfl) (by kernel_rfl) (by kernel_rfl) (fun _ _ _ h => h) (by rfl) (fun W9 hW9 => ?_) HSS.out ?_
              · have l0 : W9.cell? ⟨g7, 1, none⟩ = some (.string aty) := hW9.1.2.2.2.2.cell 1 _ rfl
                clear hW9
                go_simp
              simp only [Act.put, List.setIfInBounds_toArray, List.set_cons_succ, List.set_cons_zero, List.getElem_toArray, List.getElem_cons_succ, List.getElem_cons_zero]
              refine Y_take (i := 12) (n := 5) (.agg nc.row) rfl (by kernel_rfl) (by kernel_rfl) (by kernel_rfl) (by kernel_rfl) (fun _ _ _ h => h) (by rfl) (fun W9 hW9 => ?_) HSS.out ?_
              · exact exec_load_at rowT_node (r := nc.row) (hW9.1.2.2.2.1.range 0 _ (fun j v h => by simpa using h)) rfl _ rfl rfl
              simp only [Act.put, List.setIfInBounds_toArray, List.set_cons_succ, List.set_cons_zero, List.getElem_toArray, List.getElem_cons_succ, List.getElem_cons_zero]
              refine Y_one (i := 11) (n := 4) (by kernel_rfl) rfl (fun K hK => ?_)
              rw [if_pos (by rfl)]
              go_simp
              go_at_call 17
              refine (HRU _ HSS.out.1.1 aty).out.mono ?_
              rintro e9 wc ⟨x, rfl, hx, _, b9⟩
              have HXR := hd hx
              have HSS := hd (And.intro (HSS.out.1.keep b9) (step_b HSS.out.2 b9))
              clear hx b9
              refine hK _ _ (fun _ => HSS.out) ?_
              clear hK K
              refine Y_one (i := 13) (n := 3) (by kernel_rfl) rfl (fun K hK => ?_)
              rw [if_pos (by rfl)]
              go_simp
              go_at_call 15
              refine (HA2 _ x HXR.out HSS.out.1.1).out.mono ?_
              rintro e9 wd ⟨rfl, b9⟩
              have HSS := hd (And.intro (HSS.out.1.keep b9) (step_b HSS.out.2 b9))
              clear b9
              refine hK _ _ (fun _ => HSS.out) ?_
              clear hK K
              refine Y_take (i := 14) (n := 2) (.int .i64 1) rfl (by kernel_rfl) (by kernel_rfl) (by kernel_rfl) (by kernel_rfl) (fun _ _ _ h => h) (by rfl) (fun W9 hW9 => ?_) HSS.out ?_
              · go_simp
              simp only [Act.put, List.setIfInBounds_toArray, List.set_cons_succ, List.set_cons_zero, List.getElem_toArray, List.getElem_cons_succ, List.getElem_cons_zero]
              refine Y_take (i := 15) (n := 1) (.bool false) rfl (by kernel_rfl) (by kernel_rfl) (by kernel_rfl) (by kernel_rfl) (fun _ _ _ h => h) (by rfl) (fun W9 hW9 => ?_) HSS.out ?_
              · go_simp
              simp only [Act.put, List.setIfInBounds_toArray, List.set_cons_succ, List.set_cons_zero, List.getElem_toArray, List.getElem_cons_succ, List.getElem_cons_zero]
              refine Y_take (i := 16) (n := 0) (.bool false) rfl (by kernel_rfl) (by kernel_rfl) (by kernel_rfl) (by kernel_rfl) (fun _ _ _ h => h) (by rfl) (fun W9 hW9 => ?_) HSS.out ?_
              · go_simp
              simp only [Act.put, List.setIfInBounds_toArray, List.set_cons_succ, List.set_cons_zero, List.getElem_toArray, List.getElem_cons_succ, List.getElem_cons_zero]
              refine Y_done (by kernel_rfl) ?_
              go_wp2_with fail
              go_roundw
              case rel => exact ⟨k + 1, by omega, by go_num, hd HSS.out.2⟩
              case measure => simp [intOf]; omega
            · skip
              go_upto_region 8 with (first
                | ((with_reducible refine gd_load (ty := 27) (x := .tmp 28) ?_); refine wpList_load_at rowT_rule (r := p.row) HRG.out rfl _ rfl rfl rfl ?_)
                | ((with_reducible refine gd_store (ty := 27) (x := .tmp 6) ?_); refine wpList_store_new rowT_rule (r := p.row) rfl rfl p.one _ _ rfl rfl rfl rfl rfl rfl ?_))
              rw [HW6.out, HG6.out]
              go_upto_region 9 with (first
                | ((with_reducible refine gd_load (ty := 27) (x := .tmp 6) ?_); refine wpList_load_row rowT_rule V6.out rfl _ rfl rfl rfl ?_)
                | ((with_reducible refine gd_load (ty := 41) (x := .tmp 3) ?_); refine wpList_load_row rowT_node V3b.out rfl _ rfl rfl rfl ?_)
                | (go_at_call 15; refine HAC.out.mono ?_; rintro e9 w7 ⟨rfl, b9⟩; have V1c := hd (V1b.out.keep b9); have V6c := hd (V6.out.keep b9); have V3c := hd (V3b.out.keep b9); have HBc := hd (step_b HBb.out b9); have HBQc := hd (step_b HBQb.out b9); clear b9)
                | ((with_reducible refine gd_store (ty := 24) (x := .tmp 7) ?_); refine wpList_store_new rowT_act (r := #[.int .i64 (4), .string aty]) rfl rfl (act_one _ _) _ _ rfl rfl rfl rfl rfl rfl ?_))
              obtain ⟨g7, hg7⟩ : ∃ g7, w7.heap.size = g7 := ⟨_, rfl⟩
              obtain ⟨W8, hW8⟩ : ∃ W8, w7.alloc (.cells #[.int .i64 (4), .string aty] 24) = W8 := ⟨_, rfl⟩
              have hb8 : Below w7.heap.size w7 W8 := hW8 ▸ (Below.refl _ _).alloc (Nat.le_refl _) _
              have HIK := hd (show InK w w.heap.size g6 (w.heap.size + 1) g7 c.row p.row nc.row #[.int .i64 (4), .string aty] W8 from ⟨step_b HBc.out hb8, V1c.out.keep hb8, V6c.out.keep hb8, V3c.out.keep hb8, by rw [← hW8, ← hg7]; exact VarR.new w7 _ _⟩)
              have HBQ8 := hd (step_b HBQc.out hb8)
              rw [hW8, hg7]
              clear hg7 hW8 hb8 V1c V6c V3c HBc HBQc
              have y0 : W8.cell? ⟨g7, 0, none⟩ = some (.int .i64 (4)) := HIK.out.2.2.2.2.cell 0 _ rfl
              have y1 : W8.cell? ⟨g7, 1, none⟩ = some (.string aty) := HIK.out.2.2.2.2.cell 1 _ rfl
              have y3 : W8.cell? ⟨w.heap.size + 1, 0, none⟩ = some (.bool true) := by rw [← hlf]; exact HIK.out.2.2.2.1.cell 0 _ rfl
              clear hlf
              go_upto_region 12 with fail
              clear y0 y1 y3 ha0 ha1
              have HSS := hd (show InK w w.heap.size g6 (w.heap.size + 1) g7 c.row p.row nc.row #[.int .i64 4, .string aty] W8.drew ∧ Below w4.heap.size w4 W8.drew from ⟨HIK.out.keep (Below.refl _ _).drew, HBQ8.out.drew⟩)
              refine Y_start (S := fun W => InK w w.heap.size g6 (w.heap.size + 1) g7 c.row p.row nc.row #[.int .i64 4, .string aty] W ∧ Below w4.heap.size w4 W) (z := fun _ => false) (by kernel_rfl) ?_
              refine Y_take (i := 0) (n := 16) (.agg p.row) rfl (by kernel_rfl) (by kernel_rfl) (by kernel_rfl) (by kernel_rfl) (fun _ _ _ h => h) (by rfl) (fun W9 hW9 => ?_) HSS.out ?_
              · exact exec_load_at rowT_rule (r := p.row) (hW9.1.2.2.1.range 0 _ (fun j v h => by simpa using h)) rfl _ rfl rfl
              simp only [Act.put, List.setIfInBounds_toArray, List.set_cons_succ, List.set_cons_zero, List.getElem_toArray, List.getElem_cons_zero]
              refine Y_take (i := 1) (n := 15) (.pointer (some ⟨g7, 1, none⟩)) rfl (by kernel_rfl) (by kernel_rfl) (by kernel_rfl) (by kernel_rfl) (fun _ _ _ h => h) (by rfl) (fun W9 hW9 => ?_) HSS.out ?_
              · go_simp
              simp only [Act.put, List.setIfInBounds_toArray, List.set_cons_succ, List.set_cons_zero, List.getElem_toArray, List.getElem_cons_succ, List.getElem_cons_zero]
              refine Y_take (i := 2) (n := 14) (.string aty) rfl (by kernel_rfl) (by kernel_rfl) (by kernel_rfl) (by kernel_rfl) (fun _ _ _ h => h) (by rfl) (fun W9 hW9 => ?_) HSS.out ?_
              · have l0 : W9.cell? ⟨g7, 1, none⟩ = some (.string aty) := hW9.1.2.2.2.2.cell 1 _ rfl
                clear hW9
                go_simp
              simp only [Act.put, List.setIfInBounds_toArray, List.set_cons_succ, List.set_cons_zero, List.getElem_toArray, List.getElem_cons_succ, List.getElem_cons_zero]
              refine Y_one (i := 3) (n := 13) (by kernel_rfl) rfl (fun K hK => ?_)
              rw [if_pos (by rfl)]
              go_simp
              go_at_call 16
              refine (relem_some HNN.out _).mono ?_
              rintro e9 wa ⟨ge, rfl, hpe, hge, b9⟩
              have HPE := hd hpe
              have HSS := hd (And.intro (HSS.out.1.keep b9) (step_b HSS.out.2 b9))
              clear hpe hge b9
              refine hK _ _ (fun _ => HSS.out) ?_
              clear hK K
              refine Y_one (i := 4) (n := 12) (by kernel_rfl) rfl (fun K hK => ?_)
              rw [if_pos (by rfl)]
              go_simp
              go_at_call 15
              refine (HA1 _ HSS.out.2 ge HPE.out).out.mono ?_
              rintro e9 wb ⟨rfl, b9⟩
              have HSS := hd (And.intro (HSS.out.1.keep b9) (step_b HSS.out.2 b9))
              clear b9
              refine hK _ _ (fun _ => HSS.out) ?_
              clear hK K
              refine Y_take (i := 5) (n := 11) (.int .i64 1) rfl (by kernel_rfl) (by kernel_rfl) (by kernel_rfl) (by kernel_rfl) (fun _ _ _ h => h) (by rfl) (fun W9 hW9 => ?_) HSS.out ?_
              · go_simp
              simp only [Act.put, List.setIfInBounds_toArray, List.set_cons_succ, List.set_cons_zero, List.getElem_toArray, List.getElem_cons_succ, List.getElem_cons_zero]
              refine Y_take (i := 6) (n := 10) (.bool false) rfl (by kernel_rfl) (by kernel_rfl) (by kernel_rfl) (by kernel_rfl) (fun _ _ _ h => h) (by rfl) (fun W9 hW9 => ?_) HSS.out ?_
              · go_simp
              simp only [Act.put, List.setIfInBounds_toArray, List.set_cons_succ, List.set_cons_zero, List.getElem_toArray, List.getElem_cons_succ, List.getElem_cons_zero]
              refine Y_take (i := 7) (n := 9) (.bool false) rfl (by kernel_rfl) (by kernel_rfl) (by kernel_rfl) (by kernel_rfl) (fun _ _ _ h => h) (by rfl) (fun W9 hW9 => ?_) HSS.out ?_
              · go_simp
              simp only [Act.put, List.setIfInBounds_toArray, List.set_cons_succ, List.set_cons_zero, List.getElem_toArray, List.getElem_cons_succ, List.getElem_cons_zero]
              refine Y_take (i := 8) (n := 8) (.agg c.row) rfl (by kernel_rfl) (by kernel_rfl) (by kernel_rfl) (by kernel_rfl) (fun _ _ _ h => h) (by rfl) (fun W9 hW9 => ?_) HSS.out ?_
              · exact exec_load_at rowT_sch (r := c.row) (hW9.1.2.1.range 0 _ (fun j v h => by simpa using h)) rfl _ rfl rfl
              simp only [Act.put, List.setIfInBounds_toArray, List.set_cons_succ, List.set_cons_zero, List.getElem_toArray, List.getElem_cons_succ, List.getElem_cons_zero]
              refine Y_take (i := 9) (n := 7) (.pointer (some ⟨g7, 1, none⟩)) rfl (by kernel_rfl) (by kernel_rfl) (by kernel_rfl) (by kernel_rfl) (fun _ _ _ h => h) (by rfl) (fun W9 hW9 => ?_) HSS.out ?_
              · go_simp
              simp only [Act.put, List.setIfInBounds_toArray, List.set_cons_succ, List.set_cons_zero, List.getElem_toArray, List.getElem_cons_succ, List.getElem_cons_zero]
              refine Y_take (i := 10) (n := 6) (.string aty) rfl (by kernel_rfl) (by kernel_rfl) (by kernel_rfl) (by kernel_rfl) (fun _ _ _ h => h) (by rfl) (fun W9 hW9 => ?_) HSS.out ?_
              · have l0 : W9.cell? ⟨g7, 1, none⟩ = some (.string aty) := hW9.1.2.2.2.2.cell 1 _ rfl
                clear hW9
                go_simp
              simp only [Act.put, List.setIfInBounds_toArray, List.set_cons_succ, List.set_cons_zero, List.getElem_toArray, List.getElem_cons_succ, List.getElem_cons_zero]
              refine Y_take (i := 12) (n := 5) (.agg nc.row) rfl (by kernel_rfl) (by kernel_rfl) (by kernel_rfl) (by kernel_rfl) (fun _ _ _ h => h) (by rfl) (fun W9 hW9 => ?_) HSS.out ?_
              · exact exec_load_at rowT_node (r := nc.row) (hW9.1.2.2.2.1.range 0 _ (fun j v h => by simpa using h)) rfl _ rfl rfl
              simp only [Act.put, List.setIfInBounds_toArray, List.set_cons_succ, List.set_cons_zero, List.getElem_toArray, List.getElem_cons_succ, List.getElem_cons_zero]
              refine Y_one (i := 11) (n := 4) (by kernel_rfl) rfl (fun K hK => ?_)
              rw [if_pos (by rfl)]
              go_simp
              go_at_call 17
              refine (HRU _ HSS.out.1.1 aty).out.mono ?_
              rintro e9 wc ⟨x, rfl, hx, _, b9⟩
              have HXR := hd hx
              have HSS := hd (And.intro (HSS.out.1.keep b9) (step_b HSS.out.2 b9))
              clear hx b9
              refine hK _ _ (fun _ => HSS.out) ?_
              clear hK K
              refine Y_one (i := 13) (n := 3) (by kernel_rfl) rfl (fun K hK => ?_)
              rw [if_pos (by rfl)]
              go_simp
              go_at_call 15
              refine (HA2 _ x HXR.out HSS.out.1.1).out.mono ?_
              rintro e9 wd ⟨rfl, b9⟩
              have HSS := hd (And.intro (HSS.out.1.keep b9) (step_b HSS.out.2 b9))
              clear b9
              refine hK _ _ (fun _ => HSS.out) ?_
              clear hK K
              refine Y_take (i := 14) (n := 2) (.int .i64 1) rfl (by kernel_rfl) (by kernel_rfl) (by kernel_rfl) (by kernel_rfl) (fun _ _ _ h => h) (by rfl) (fun W9 hW9 => ?_) HSS.out ?_
              · go_simp
              simp only [Act.put, List.setIfInBounds_toArray, List.set_cons_succ, List.set_cons_zero, List.getElem_toArray, List.getElem_cons_succ, List.getElem_cons_zero]
              refine Y_take (i := 15) (n := 1) (.bool false) rfl (by kernel_rfl) (by kernel_rfl) (by kernel_rfl) (by kernel_rfl) (fun _ _ _ h => h) (by rfl) (fun W9 hW9 => ?_) HSS.out ?_
              · go_simp
              simp only [Act.put, List.setIfInBounds_toArray, List.set_cons_succ, List.set_cons_zero, List.getElem_toArray, List.getElem_cons_succ, List.getElem_cons_zero]
              refine Y_take (i := 16) (n := 0) (.bool false) rfl (by kernel_rfl) (by kernel_rfl) (by kernel_rfl) (by kernel_rfl) (fun _ _ _ h => h) (by rfl) (fun W9 hW9 => ?_) HSS.out ?_
              · go_simp
              simp only [Act.put, List.setIfInBounds_toArray, List.set_cons_succ, List.set_cons_zero, List.getElem_toArray, List.getElem_cons_succ, List.getElem_cons_zero]
              refine Y_done (by kernel_rfl) ?_
              go_wp2_with fail
              go_roundw
              case rel => exact ⟨k + 1, by omega, by go_num, hd HSS.out.2⟩
              case measure => simp [intOf]; omega
        · obtain rfl : k = n4 := by omega
          go_wp2_with fail
          go_ret
          exact ⟨rfl, step_b HB.out HB4.out⟩

end Go.Proofs.Ytegaapeaeffgoaa
