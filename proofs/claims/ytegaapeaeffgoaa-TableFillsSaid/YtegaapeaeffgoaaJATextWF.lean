/- Schemas: plain functions and facts; no program is named here. A node that a call builds: its variable, its row of Kids, one kid more, and what it is in the end. TableFills answers true. -/
import Derived.Test.YtegaapeaeffgoaaJPSpec
import Derived.Laws.Strings
import Derived.Test.YtegaapeaeffgoaaJAOpen2
import Derived.Test.YtegaapeaeffgoaaProg
import Derived.WalkKit
import Derived.WalkLawsBesides
import Derived.WalkSpells
import Derived.LoopTactic
import Derived.Outline
import Derived.Deep.Draws
import Derived.Deep.QuietTactic
import Derived.BigQuiet
import Derived.Below
import Derived.Laws.OwnMore
import Derived.Laws.MakeOwn
import Derived.Maps.AppendAt
import Derived.Deep.AppendLies
import Derived.RegionTactic
import Derived.OwnWalk
import Derived.WideShapes
import Derived.IntWalk
import Derived.Laws.EntriesVeiled
import Derived.Shelf.Abstract
import Derived.Laws.IdiomStrings
import Derived.Deep.RegionHeld3
import Derived.Deep.DeepCutAuto
import Derived.Deep.CutBlock
import Derived.Deep.RegionLaw
import Derived.Test.YtegaapeaeffgoaaJAFew
import Derived.Test.YtegaapeaeffgoaaJAFormed2
import Derived.Test.YtegaapeaeffgoaaJAAsk2
import Derived.Test.YtegaapeaeffgoaaJANames
import Derived.Test.YtegaapeaeffgoaaJARules
import Derived.Test.YtegaapeaeffgoaaJAForm2
import Derived.Test.YtegaapeaeffgoaaAForm
import Derived.Test.YtegaapeaeffgoaaJASeek
import Derived.Test.YtegaapeaeffgoaaRows
import Derived.ProofKit
import Derived.Deep.Slices
import Derived.SizedLaws
import Derived.OpenShut
import Derived.Deep.MidRow
import Derived.Laws.AppendOwnNone
import Derived.StillTailTactics
import Derived.ArgAppend
import Derived.Lib.SliceRun
import Derived.Lib.AppendZeros
import Derived.Deep.Cut
import Derived.BigRegion
import Derived.Laws.Tables
import Derived.Laws.ResultCell
import Derived.Maps.OwnOps
import Derived.OrdersHeld
import Derived.Great.BuildSlice
import Derived.Great.FillDense
import Derived.Maps.OwnSet
import Derived.Maps.StringElems
import Derived.Maps.RangeWalk
import Derived.Shelf.Lays
import Derived.Shelf.Sort.Plain
import Derived.Sort.OwnSorted
import Derived.Sort.KeysCollected
import Derived.Lib.MinMax
namespace Go.Proofs.Ytegaapeaeffgoaa
/-! What follows of a schema that may be. -/

/-! Fills. -/
set_option maxRecDepth 4000 in
theorem foldl_max_le : ∀ (l : List Nat) (b : Nat), b ≤ l.foldl max b ∧ ∀ x ∈ l, x ≤ l.foldl max b
  | [], b => ⟨Nat.le_refl _, by simp⟩
  | y :: l, b => by
    obtain ⟨h1, h2⟩ := foldl_max_le l (max b y)
    rw [List.foldl_cons]
    refine ⟨by omega, fun x hx => ?_⟩
    rcases List.mem_cons.1 hx with rfl | hx
    · omega
    · exact h2 x hx
set_option maxRecDepth 4000 in
theorem fills_most {s : SchT} {r : RuleT} {n : Nat} (hr : r ∈ allT s) (h : fillsT s r = some n) : n ≤ mostT s := by
  refine (foldl_max_le _ 0).2 n (List.mem_map.2 ⟨r, hr, by rw [h]; rfl⟩)
set_option maxRecDepth 4000 in
/-- More fuel tells the same. -/
theorem fills_more {s : SchT} : ∀ {f : Nat} {r : RuleT} {n : Nat}, fillsN s f r = some n → ∀ g, f ≤ g → fillsN s g r = some n
  | 0, _, _, h, _, _ => by simp [fillsN] at h
  | f + 1, r, n, h, 0, hg => by omega
  | f + 1, r, n, h, g + 1, hg => by
    unfold fillsN at h ⊢
    split
    · rename_i e; rw [if_pos e] at h; exact h
    · rename_i e
      rw [if_neg e] at h
      split
      · rename_i e2; rw [if_pos e2] at h; exact h
      · rename_i e2
        rw [if_neg e2] at h
        obtain ⟨m, h1, h2⟩ := Option.map_eq_some_iff.1 h
        rw [fills_more h1 g (by omega)]
        simp [h2]
set_option maxRecDepth 4000 in
/-- One step of filling: as many less. -/
theorem fills_step {s : SchT} {r : RuleT} {n : Nat} (h : fillsT s r = some n) (h0 : r.fill ≠ 0) : (r.fill = 1 ∧ n = 1) ∨ (r.fill ≠ 1 ∧ ∃ m, n = m + 1 ∧ fillsT s (ruleT s r.fty) = some m) := by
  unfold fillsT fillsN at h
  rw [if_neg h0] at h
  split at h
  · rename_i e
    injection h with h
    exact .inl ⟨e, h.symm⟩
  · rename_i e
    obtain ⟨m, h1, h2⟩ := Option.map_eq_some_iff.1 h
    exact .inr ⟨e, m, h2.symm, fills_more h1 _ (by omega)⟩
set_option maxRecDepth 4000 in
theorem check_fill {s : SchT} {r : RuleT} (h : okSch s = true) (hr : r ∈ allT s) : filledT r = true ∧ ∃ n, fillsT s r = some n := by
  unfold okSch at h
  rw [Bool.and_eq_true] at h
  have hw := List.all_eq_true.1 h.2 r hr
  rw [Bool.and_eq_true, Bool.and_eq_true] at hw
  exact ⟨hw.2.1, Option.isSome_iff_exists.1 hw.2.2⟩

/-! The order of the classes. -/
end Go.Proofs.Ytegaapeaeffgoaa

namespace Go.Proofs.Ytegaapeaeffgoaa
open Go.RowKit
open Go.WideShapes (add_plain)
set_option maxRecDepth 4000 in
theorem Off.cell {g : Nat} {w w' : World} (h : Off g w w') {p : Addr} (hp : p.block < w.heap.size) (hg : p.block ≠ g) : w'.cell? p = w.cell? p := World.cell?_of_block (h.block p.block hp hg)
end Go.Proofs.Ytegaapeaeffgoaa

namespace Go.Proofs.Ytegaapeaeffgoaa
open Go.RowKit

theorem vl_off {w w' : World} {A : Option Addr} {xs : List Value} {g : Nat} (h : VL w w.heap.size A xs) (ho : Off g w w') (hne : ∀ b o, A = some ⟨b, o, none⟩ → b ≠ g) : VL w' w'.heap.size A xs := fun hn => by
  obtain ⟨b, o, e, hb, hc⟩ := h hn
  exact ⟨b, o, e, Nat.lt_of_lt_of_le hb ho.size, fun k u hu => (ho.cell (p := ⟨b, o + k, none⟩) hb (hne b o e)).trans (hc k u hu)⟩
set_option maxRecDepth 4000 in
theorem RuAt.off {w w' : World} {c : RuC} {r : RuleT} {g : Nat} (h : RuAt w c r) (ho : Off g w w') (hne : ∀ b o, c.K = some ⟨b, o, none⟩ → b ≠ g) : RuAt w' c r := { h with kids := vl_off h.kids ho hne }
set_option maxRecDepth 4000 in
theorem pl_off {w w' : World} {ge g : Nat} {l : List Pr} (h : PL w w.heap.size (some ⟨ge, 0, none⟩) l) (ho : Off g w w') (hne : ge ≠ g) : PL w' w'.heap.size (some ⟨ge, 0, none⟩) l := fun hn => by
  obtain ⟨b, o, e, hb, hc⟩ := h hn
  have e2 : ge = b := by
    injection e with e
    injection e
  subst e2
  exact ⟨ge, o, e, Nat.lt_of_lt_of_le hb ho.size, fun k hk => ⟨(ho.cell (p := ⟨ge, o + k * 2, none⟩) hb hne).trans (hc k hk).1, (ho.cell (p := ⟨ge, o + k * 2 + 1, none⟩) hb hne).trans (hc k hk).2⟩⟩
set_option maxRecDepth 4000 in
theorem mostT_small {s : SchT} (hl : s.rules.length ≤ 1000) : mostT s ≤ 1002 := most_small hl (allT s)
set_option maxRecDepth 100000 in
set_option maxHeartbeats 8000000 in
theorem fills_law {w : World} {c : ScC} {s : SchT} {kind : Nm} (h : ScAt w c s) (hfit : ∀ r ∈ allT s, FitR r) (hby : (s.rules.length + 1) * 112 ≤ 140737488355328) : Calls Try.prog 5 #[.agg c.row, .string kind] w (AllTrue w) := by
  have hb : Below w.heap.size w (w.alloc (.cells c.row 30)) := (Below.refl _ _).alloc (Nat.le_refl _) _
  have hv := VarR.new w 30 c.row
  obtain ⟨W0, hW⟩ : ∃ W0, w.alloc (.cells c.row 30) = W0 := ⟨_, rfl⟩
  rw [hW] at hb hv
  have HFW := fun (W : World) (hb : Below w.heap.size w W) => hd (few15_any (h.later hb) hby)
  have HFI := fun (W : World) (hb : Below w.heap.size w W) => hd (fills_any (h.later hb) hfit)
  have HCK := fun (W : World) (hb : Below w.heap.size w W) => hd (check_any15 (h.later hb) hfit)
  have HS := hd h
  have HW := hd hW
  have HB := hd hb
  have V1 := hd hv
  clear h hfit hby hb hv hW
  cases hok : okSch s with
  | false =>
    have HAE := hd (show ansE s = 12 by unfold ansE; rw [hok]; rfl)
    simp only [ans_no hok] at HFI
    simp only [HAE.out] at HCK
    clear hok
    go_enter Try.func5, Try.ntmps5
    go_upto_region 1 with fail
    rw [HW.out]
    go_wp2_with (first
      | (go_at_call 7; refine (live15_any _).mono ?_; rintro e9 w1 ⟨rfl, b9⟩; have V1 := hd (V1.out.keep b9); have HB := hd (step_b HB.out b9); clear b9)
      | ((with_reducible refine gd_load (ty := 30) (x := .tmp 2) ?_); refine wpList_load_row rowT_sch V1.out rfl _ rfl rfl rfl ?_)
      | ((with_reducible refine gd_loadg (ty := 30) (x := .tmp 2) ?_); refine wpList_load_rowg rowT_sch V1.out rfl _ rfl (by rfl) rfl ?_)
      | (go_at_call 8; refine (HFW _ HB.out).out.mono ?_; rintro e9 w2 ⟨B, rfl, b9⟩; have V1 := hd (V1.out.keep b9); have HB := hd (step_b HB.out b9); clear b9)
      | (go_at_call 9; refine (HFI _ HB.out).out.mono ?_; rintro e9 w3 ⟨rfl, b9⟩; have V1 := hd (V1.out.keep b9); have HB := hd (step_b HB.out b9); clear b9)
      | (go_at_call 11; refine (HCK _ HB.out).out.mono ?_; rintro e9 w4 ⟨rfl, b9⟩; have HB := hd (step_b HB.out b9); clear b9))
    all_goals (go_ret; exact ⟨rfl, HB.out⟩)
  | true =>
    have hA : okSchA s = true := by unfold okSch at hok; rw [Bool.and_eq_true] at hok; exact hok.1
    have hl := okA_rules hA
    have HOK := hd hok
    have HOA := hd hA
    simp only [ans_yes hok] at HFI
    obtain ⟨M, hM⟩ : ∃ M, mostT s = M := ⟨_, rfl⟩
    have hM9 : M ≤ 1002 := by rw [← hM]; exact mostT_small (by omega)
    have HM := hd hM
    simp only [hM] at HFI
    have HRU := fun (W : World) (hb : Below w.heap.size w W) (k : Nm) => hd (rule_any (k := k) (HS.out.later hb) (by omega) (E := ruleT s k) rfl (by have := okA_kids hA (ruleT_mem s k); omega))
    clear hok hA hM
    go_enter Try.func5, Try.ntmps5
    go_upto_region 1 with fail
    rw [HW.out]
    go_upto_region 5 with (first
      | (go_at_call 7; refine (live15_any _).mono ?_; rintro e9 w1 ⟨rfl, b9⟩; have V1 := hd (V1.out.keep b9); have HB := hd (step_b HB.out b9); clear b9)
      | ((with_reducible refine gd_load (ty := 30) (x := .tmp 2) ?_); refine wpList_load_row rowT_sch V1.out rfl _ rfl rfl rfl ?_)
      | (go_at_call 8; refine (HFW _ HB.out).out.mono ?_; rintro e9 w2 ⟨B, rfl, b9⟩; have V1 := hd (V1.out.keep b9); have HB := hd (step_b HB.out b9); clear b9))
    · go_ret
      exact ⟨rfl, HB.out⟩
    · go_upto_region 10 with (first
        | ((with_reducible refine gd_load (ty := 30) (x := .tmp 2) ?_); refine wpList_load_row rowT_sch V1.out rfl _ rfl rfl rfl ?_)
        | (go_at_call 9; refine (HFI _ HB.out).out.mono ?_; rintro e9 w3 ⟨rfl, b9⟩; have V1 := hd (V1.out.keep b9); have HB := hd (step_b HB.out b9); clear b9)
        | (go_at_call 17; refine (HRU _ HB.out kind).out.mono ?_; rintro e9 w4 ⟨d, rfl, hr4, _, b9⟩; have HR := hd hr4; have V1 := hd (V1.out.keep b9); have HB := hd (step_b HB.out b9); clear hr4 b9)
        | ((with_reducible refine gd_store (ty := 27) (x := .tmp 8) ?_); refine wpList_store_new rowT_rule (r := d.row) rfl rfl d.one _ _ rfl rfl rfl rfl rfl rfl ?_))
      obtain ⟨g, hg⟩ : ∃ g, w4.heap.size = g := ⟨_, rfl⟩
      obtain ⟨W5, hW5⟩ : ∃ W5, w4.alloc (.cells d.row 27) = W5 := ⟨_, rfl⟩
      have hb5 : Below w4.heap.size w4 W5 := hW5 ▸ (Below.refl _ _).alloc (Nat.le_refl _) _
      have V8 := hd (show VarR 27 W5 g d.row by rw [← hW5, ← hg]; exact VarR.new w4 _ _)
      have HR := hd (HR.out.later hb5)
      have HNE := hd (show g ≠ w.heap.size by have := V1.out.lt; omega)
      have HGL := hd (show w.heap.size ≤ g by rw [← hg]; exact HB.out.size)
      have V1 := hd (V1.out.keep hb5)
      have HB := hd (step_b HB.out hb5)
      rw [hW5, hg]
      clear hW5 hg hb5
      go_loopw [7] (fun v wr => ∃ (n x : Nat) (d' : RuC) (r' : RuleT), v = .int .i64 n ∧ n + x ≤ M ∧ Hid (VarR 27 wr g d'.row) ∧ Hid (RuAt wr d' r') ∧ Hid (r' ∈ allT s) ∧ Hid (fillsT s r' = some x) ∧ Hid (VarR 30 wr w.heap.size c.row) ∧ Hid (Below w.heap.size w wr)) (fun v _ => M + 1 - (intOf v).toNat)
      case atStart =>
        obtain ⟨x, hx⟩ := (check_fill HOK.out (ruleT_mem s kind)).2
        exact ⟨0, x, d, _, rfl, by have := fills_most (ruleT_mem s kind) hx; rw [HM.out] at this; omega, V8, HR, hd (ruleT_mem s kind), hd hx, V1, HB⟩
      case round =>
        obtain ⟨n, x, d', r', rfl, hnx, V8, HR, HMEM, HX, V1, HB⟩ := hrel
        have hrf := okA_fill HOA.out HMEM.out
        have hfl : r'.fill = d'.fill := HR.out.hfill
        have hft : r'.fty = d'.fty := HR.out.hfty
        have hfd := (check_fill HOK.out HMEM.out).1
        have hst : r'.fill ≠ 0 → _ := fills_step HX.out
        unfold filledT at hfd
        rw [hfl, hft] at hfd
        rw [hfl] at hrf hst
        rw [hft] at hst
        by_cases f0 : d'.fill = 0
        · have e0 : (d'.fill != 0) = false := by simpa using f0
          have l6 : wr.cell? ⟨g, 6, none⟩ = some (.int .i64 d'.fill) := V8.out.cell 6 _ rfl
          clear hrf hfl hft hfd hst f0
          go_wp2_with fail
          go_ret
          exact ⟨rfl, HB.out⟩
        · have hkl : r'.kids.length ≤ 10000 := by have := okA_kids HOA.out HMEM.out; omega
          have hst := hst f0
          by_cases f1 : d'.fill = 1
          · rw [if_pos f1] at hfd
            have hx1 : x = 1 := by
              rcases hst with ⟨_, h⟩ | ⟨h, _⟩
              · exact h
              · exact absurd f1 h
            have HKE := hd (show (actQ r' none).act = 1 from (by simpa using hfd : r'.text.act = 1))
            have l6 : wr.cell? ⟨g, 6, none⟩ = some (.int .i64 1) := by rw [← f1]; exact V8.out.cell 6 _ rfl
            obtain ⟨aty, hat⟩ : ∃ aty, (actQ r' none).ty = aty := ⟨_, rfl⟩
            have HAQ := hd (show actQ r' none = ⟨1, aty⟩ by
              rw [← hat, ← HKE.out])
            obtain ⟨W6, hW6⟩ : ∃ W6, wr.alloc (.cells leafC.row 41) = W6 := ⟨_, rfl⟩
            obtain ⟨g9, hg9⟩ : ∃ g9, wr.heap.size = g9 := ⟨_, rfl⟩
            have hb6 : Below wr.heap.size wr W6 := hW6 ▸ (Below.refl _ _).alloc (Nat.le_refl _) _
            have V9 := hd (show VarR 41 W6 g9 leafC.row by rw [← hW6, ← hg9]; exact VarR.new wr _ _)
            have HAC := hd (act_any (HR.out.later hb6) hkl (leafC_at W6) HAQ.out)
            have hrun := run_act_0 1 aty
            have V8b := hd (V8.out.keep hb6)
            have HB6 := hd (step_b HB.out hb6)
            have HW6 := hd hW6
            have HG9 := hd hg9
            have hgt : decide ((M : Int) < (n : Int) + 1) = false := dec_no (by omega)
            subst hx1
            have l6b : W6.cell? ⟨g, 6, none⟩ = some (.int .i64 1) := by rw [← f1]; exact V8b.out.cell 6 _ rfl
            clear hrf hfl hft hfd hst f0 f1 hat hb6 hW6 hg9 hkl
            go_upto_region 15 with ((with_reducible refine gd_store (ty := 41) (x := .tmp 9) ?_); refine wpList_store_new rowT_node (r := leafC.row) rfl rfl (NC.one _) _ _ rfl rfl rfl rfl rfl rfl ?_)
            rw [HW6.out, HG9.out]
            have l9 : W6.cell? ⟨g9, 0, none⟩ = some (.bool true) := V9.out.cell 0 _ rfl
            go_wp2_with (first
              | ((with_reducible refine gd_load (ty := 27) (x := .tmp 8) ?_); refine wpList_load_row rowT_rule V8b.out rfl _ rfl rfl rfl ?_)
              | ((with_reducible refine gd_load (ty := 41) (x := .tmp 9) ?_); refine wpList_load_row rowT_node V9.out rfl _ rfl rfl rfl ?_)
              | (go_at_call 15; refine HAC.out.mono ?_; rintro e9 w7 ⟨rfl, b9⟩; have V9 := hd (V9.out.keep b9); clear l9; have l9 : w7.cell? ⟨g9, 0, none⟩ = some (.bool true) := V9.out.cell 0 _ rfl; have HB6 := hd (step_b HB6.out b9); clear b9))
            go_ret
            exact ⟨rfl, HB6.out⟩
          · have f2 : d'.fill = 2 := by
              rcases hrf with h | h | h
              · exact absurd h f0
              · exact absurd h f1
              · exact h
            rw [if_neg f1, if_pos f2] at hfd
            obtain ⟨m, hxm, hfm⟩ : ∃ m, x = m + 1 ∧ fillsT s (ruleT s d'.fty) = some m := by
              rcases hst with ⟨h, _⟩ | ⟨_, h⟩
              · exact absurd h f1
              · exact h
            have HKE := hd (show (actQ r' (some d'.fty)).act = 1 from (by simpa [keepsT] using hfd : (actT r' d'.fty).act = 1))
            have HNN := hd (show d'.fty ≠ noN from by
              have h1 := ok_rule HOA.out HMEM.out
              simp only [ruleOk, Bool.and_eq_true] at h1
              have h3 := h1.2.2.2.2.2
              unfold fillT at h3
              rw [hfl, hft, if_neg (by omega), if_pos f2] at h3
              exact nameT_ne h3)
            have HFM := hd hfm
            have l6 : wr.cell? ⟨g, 6, none⟩ = some (.int .i64 2) := by rw [← f2]; exact V8.out.cell 6 _ rfl
            obtain ⟨aty, hat⟩ : ∃ aty, (actQ r' (some d'.fty)).ty = aty := ⟨_, rfl⟩
            have HAQ := hd (show actQ r' (some d'.fty) = ⟨1, aty⟩ by
              rw [← hat, ← HKE.out])
            obtain ⟨W6, hW6⟩ : ∃ W6, wr.alloc (.cells leafC.row 41) = W6 := ⟨_, rfl⟩
            obtain ⟨g9, hg9⟩ : ∃ g9, wr.heap.size = g9 := ⟨_, rfl⟩
            have hb6 : Below wr.heap.size wr W6 := hW6 ▸ (Below.refl _ _).alloc (Nat.le_refl _) _
            have V9 := hd (show VarR 41 W6 g9 leafC.row by rw [← hW6, ← hg9]; exact VarR.new wr _ _)
            have HAC := fun (W : World) (hb : Below wr.heap.size wr W) (ge : Nat) (hp : PL W W.heap.size (some ⟨ge, 0, none⟩) [(tyKey, d'.fty)]) => hd (act_any (HR.out.later hb) hkl (elC_at hp) HAQ.out)
            have hrun := run_act_0 1 aty
            have V8b := hd (V8.out.keep hb6)
            have V1 := hd (V1.out.keep hb6)
            have HB6 := hd (step_b HB.out hb6)
            have HBW := hd hb6
            have HW6 := hd hW6
            have HG9 := hd hg9
            have HGG := hd (show g ≠ g9 by have := V8.out.lt; omega)
            have HGW := hd (show w.heap.size ≠ g9 ∧ w.heap.size ≤ g9 by have := V1.out.lt; have := HB.out.size; have h3 := hW6; have h4 : W6.heap.size = wr.heap.size + 1 := (by rw [← hW6]; simp); have h5 := HGL.out; have h6 := V8.out.lt; omega)
            have HWR := hd (show wr.heap.size ≤ g9 by omega)
            have hgt : decide ((M : Int) < (n : Int) + 1) = false := dec_no (by omega)
            have l6b : W6.cell? ⟨g, 6, none⟩ = some (.int .i64 2) := by rw [← f2]; exact V8b.out.cell 6 _ rfl
            have l7b : W6.cell? ⟨g, 7, none⟩ = some (.string d'.fty) := V8b.out.cell 7 _ rfl
            subst hxm
            clear hrf hfl hft hfd hst f0 f1 f2 hat hb6 hW6 hg9 hkl hfm
            go_upto_region 15 with ((with_reducible refine gd_store (ty := 41) (x := .tmp 9) ?_); refine wpList_store_new rowT_node (r := leafC.row) rfl rfl (NC.one _) _ _ rfl rfl rfl rfl rfl rfl ?_)
            rw [HW6.out, HG9.out]
            go_upto_region 17 with (first
              | (go_at_call 16; refine (relem_some HNN.out _).mono ?_; rintro e9 w7 ⟨ge, rfl, hpe, hge, b9⟩; have HPE := hd hpe; have HGE := hd (show g9 < ge from Nat.lt_of_lt_of_le V9.out.lt hge); have V1 := hd (V1.out.keep b9); have V8b := hd (V8b.out.keep b9); have V9 := hd (V9.out.keep b9); have HB6 := hd (step_b HB6.out b9); have HBW := hd (step_b HBW.out b9); clear hpe hge b9)
              | ((with_reducible refine gd_store (ty := 41) (x := .tmp 9) ?_); refine wpList_store_row2 rowT_node (r := (elC ge).row) V9.out rfl rfl (NC.one _) _ _ rfl rfl rfl rfl rfl ?_; intro w8 hv8 ho8; have V9 := hd hv8; have V1 := hd (V1.out.off ho8 HGW.out.1); have V8b := hd (V8b.out.off ho8 HGG.out); have HB6 := hd (off_below HB6.out ho8 HGW.out.2); have HBW := hd (off_below HBW.out ho8 HWR.out); have HPE := hd (pl_off HPE.out ho8 (by have := HGE.out; omega)); clear hv8 ho8))
            clear l6 l6b l7b
            have l9 : w8.cell? ⟨g9, 0, none⟩ = some (.bool false) := V9.out.cell 0 _ rfl
            go_upto_region 21 with (first
              | ((with_reducible refine gd_load (ty := 27) (x := .tmp 8) ?_); refine wpList_load_row rowT_rule V8b.out rfl _ rfl rfl rfl ?_)
              | ((with_reducible refine gd_load (ty := 41) (x := .tmp 9) ?_); refine wpList_load_row rowT_node V9.out rfl _ rfl rfl rfl ?_)
              | (go_at_call 15; refine (HAC _ HBW.out ge HPE.out).out.mono ?_; rintro e9 wa ⟨rfl, b9⟩; have V9 := hd (V9.out.keep b9); clear l9; have l9 : wa.cell? ⟨g9, 0, none⟩ = some (.bool false) := V9.out.cell 0 _ rfl; have V1 := hd (V1.out.keep b9); have V8b := hd (V8b.out.keep b9); have HB6 := hd (step_b HB6.out b9); clear b9))
            clear l9
            have l7 : wa.cell? ⟨g, 7, none⟩ = some (.string d'.fty) := V8b.out.cell 7 _ rfl
            go_wp2_with (first
              | ((with_reducible refine gd_load (ty := 30) (x := .tmp 2) ?_); refine wpList_load_row rowT_sch V1.out rfl _ rfl rfl rfl ?_)
              | (go_at_call 17; refine (HRU _ HB6.out d'.fty).out.mono ?_; rintro e9 wb ⟨d2, rfl, hr2, hlo2, b9⟩; have HR2 := hd hr2; have HLO := hd (show ∀ b o, d2.K = some ⟨b, o, none⟩ → b ≠ g from fun b o e => by have h1 := hlo2 b o e; have h2 := V8b.out.lt; omega); have V1 := hd (V1.out.keep b9); have V8b := hd (V8b.out.keep b9); have HB6 := hd (step_b HB6.out b9); clear hr2 hlo2 b9)
              | ((with_reducible refine gd_store (ty := 27) (x := .tmp 8) ?_); refine wpList_store_row2 rowT_rule (r := d2.row) V8b.out rfl rfl (RuC.one _) _ _ rfl rfl rfl rfl rfl ?_; intro wc hvc hoc; have V8c := hd hvc; have V1 := hd (V1.out.off hoc (Ne.symm HNE.out)); have HB6 := hd (off_below HB6.out hoc HGL.out); have HR3 := hd (HR2.out.off hoc HLO.out); clear hvc hoc))
            go_roundw
            case rel => exact ⟨n + 1, m, d2, _, by go_num, by omega, V8c, HR3, hd (ruleT_mem s d'.fty), HFM, V1, HB6⟩
            case measure => simp [intOf]; omega

end Go.Proofs.Ytegaapeaeffgoaa
