/- Schemas: plain functions and facts; no program is named here. TableOrder answers true. -/
import Derived.Test.YtegaapeaeffgoaaJPSpec
import Derived.Laws.Strings
import Derived.Test.YtegaapeaeffgoaaJAFew
import Derived.Test.YtegaapeaeffgoaaJAFormed2
import Derived.Test.YtegaapeaeffgoaaJAAsk2
import Derived.Test.YtegaapeaeffgoaaJANames
import Derived.Test.YtegaapeaeffgoaaJARules
import Derived.Test.YtegaapeaeffgoaaJAForm2
import Derived.Test.YtegaapeaeffgoaaAForm
import Derived.Test.YtegaapeaeffgoaaJASeek
import Derived.Test.YtegaapeaeffgoaaJAOpen2
import Derived.Test.YtegaapeaeffgoaaProg
import Derived.WalkKit
import Derived.WalkLawsBesides
import Derived.WalkSpells
import Derived.LoopTactic
import Derived.Outline
import Derived.Deep.Draws
import Derived.Deep.QuietTactic
import Derived.BigQuiet
import Derived.Below
import Derived.Laws.OwnMore
import Derived.Laws.MakeOwn
import Derived.Maps.AppendAt
import Derived.Deep.AppendLies
import Derived.RegionTactic
import Derived.OwnWalk
import Derived.WideShapes
import Derived.IntWalk
import Derived.Laws.EntriesVeiled
import Derived.Test.YtegaapeaeffgoaaRows
import Derived.ProofKit
import Derived.Deep.Slices
import Derived.SizedLaws
import Derived.OpenShut
import Derived.Deep.MidRow
import Derived.Deep.RegionHeld3
import Derived.Laws.AppendOwnNone
import Derived.Shelf.Abstract
import Derived.Laws.IdiomStrings
import Derived.Deep.DeepCutAuto
import Derived.Deep.CutBlock
import Derived.Deep.RegionLaw
import Derived.StillTailTactics
import Derived.ArgAppend
import Derived.Lib.SliceRun
import Derived.Lib.AppendZeros
import Derived.Deep.Cut
import Derived.BigRegion
import Derived.Laws.Tables
import Derived.Laws.ResultCell
import Derived.Maps.OwnOps
import Derived.OrdersHeld
import Derived.Great.BuildSlice
import Derived.Great.FillDense
import Derived.Maps.OwnSet
import Derived.Maps.StringElems
import Derived.Maps.RangeWalk
import Derived.Shelf.Lays
import Derived.Shelf.Sort.Plain
import Derived.Sort.OwnSorted
import Derived.Sort.KeysCollected
import Derived.Lib.MinMax
namespace Go.Proofs.Ytegaapeaeffgoaa
/-! What follows of a schema that may be. -/

/-! Fills. -/
/-! The order of the classes. -/
set_option maxRecDepth 4000 in
theorem order_perm {l m : List Int} (h : l.Perm m) : orderT l = orderT m := by
  unfold orderT
  congr 1
  funext c
  rw [h.count_eq]
set_option maxRecDepth 4000 in
theorem fills_same (a : List RuleT) (b : RuleT) (c c' : List Int) (d d' : Int) : ∀ (f : Nat) (r : RuleT), fillsN ⟨a, b, c, d⟩ f r = fillsN ⟨a, b, c', d'⟩ f r
  | 0, _ => rfl
  | f + 1, r => by
    unfold fillsN
    rw [fills_same a b c c' d d' f]
    rfl
set_option maxRecDepth 4000 in
theorem okSchZ_same (a : List RuleT) (b : RuleT) (c c' : List Int) (d d' : Int) : okSchZ ⟨a, b, c, d⟩ = okSchZ ⟨a, b, c', d'⟩ := by
  unfold okSchZ fillsT
  have e : ∀ r, fillsN ⟨a, b, c, d⟩ (a.length + 2) r = fillsN ⟨a, b, c', d'⟩ (a.length + 2) r := fills_same a b c c' d d' _
  show (allT _).all (fun r => wrapsT _ r && (filledT r && (fillsN ⟨a, b, c, d⟩ (a.length + 2) r).isSome)) = (allT _).all (fun r => wrapsT _ r && (filledT r && (fillsN ⟨a, b, c', d'⟩ (a.length + 2) r).isSome))
  simp only [e]
  rfl
set_option maxRecDepth 4000 in
theorem check_turn {s t : SchT} (h1 : t.rules = s.rules) (h2 : t.els = s.els) (ho : orderT t.order = orderT s.order) (hc : 1 ≤ t.cap ∧ t.cap ≤ 1048576) (h : okSch s = true) : okSch t = true := by
  obtain ⟨a, b, c, d⟩ := s
  obtain ⟨a', b', c', d'⟩ := t
  simp only at h1 h2 ho hc
  subst h1 h2
  unfold okSch at h ⊢
  rw [Bool.and_eq_true] at h ⊢
  refine ⟨?_, (okSchZ_same _ _ _ _ _ _).trans h.2⟩
  have h3 := h.1
  simp only [okSchA, Bool.and_eq_true, decide_eq_true_eq] at h3 ⊢
  exact ⟨h3.1, h3.2.1, hc.1, hc.2, ho.trans h3.2.2.2.2.1, h3.2.2.2.2.2⟩

end Go.Proofs.Ytegaapeaeffgoaa

namespace Go.Proofs.Ytegaapeaeffgoaa
open Go.RowKit

/-- The classes turned: the i-th is the one that stood t places on. -/
def turnQ (c : ScC) (t i : Nat) : Int := ordQ c ((i + t) % 6)
def turnL (c : ScC) (t : Nat) : List Int := [turnQ c t 0, turnQ c t 1, turnQ c t 2, turnQ c t 3, turnQ c t 4, turnQ c t 5]
set_option maxRecDepth 4000 in
theorem turn_perm (c : ScC) (t : Nat) : (turnL c t).Perm [c.o1, c.o2, c.o3, c.o4, c.o5, c.o6] := by
  have h : t % 6 = 0 ∨ t % 6 = 1 ∨ t % 6 = 2 ∨ t % 6 = 3 ∨ t % 6 = 4 ∨ t % 6 = 5 := by omega
  unfold turnL turnQ
  rcases h with h | h | h | h | h | h
  · rw [show (0 + t) % 6 = 0 by omega, show (1 + t) % 6 = 1 by omega, show (2 + t) % 6 = 2 by omega, show (3 + t) % 6 = 3 by omega, show (4 + t) % 6 = 4 by omega, show (5 + t) % 6 = 5 by omega]
    exact List.Perm.refl _
  · rw [show (0 + t) % 6 = 1 by omega, show (1 + t) % 6 = 2 by omega, show (2 + t) % 6 = 3 by omega, show (3 + t) % 6 = 4 by omega, show (4 + t) % 6 = 5 by omega, show (5 + t) % 6 = 0 by omega]
    exact List.perm_append_comm (l₁ := [c.o2, c.o3, c.o4, c.o5, c.o6]) (l₂ := [c.o1])
  · rw [show (0 + t) % 6 = 2 by omega, show (1 + t) % 6 = 3 by omega, show (2 + t) % 6 = 4 by omega, show (3 + t) % 6 = 5 by omega, show (4 + t) % 6 = 0 by omega, show (5 + t) % 6 = 1 by omega]
    exact List.perm_append_comm (l₁ := [c.o3, c.o4, c.o5, c.o6]) (l₂ := [c.o1, c.o2])
  · rw [show (0 + t) % 6 = 3 by omega, show (1 + t) % 6 = 4 by omega, show (2 + t) % 6 = 5 by omega, show (3 + t) % 6 = 0 by omega, show (4 + t) % 6 = 1 by omega, show (5 + t) % 6 = 2 by omega]
    exact List.perm_append_comm (l₁ := [c.o4, c.o5, c.o6]) (l₂ := [c.o1, c.o2, c.o3])
  · rw [show (0 + t) % 6 = 4 by omega, show (1 + t) % 6 = 5 by omega, show (2 + t) % 6 = 0 by omega, show (3 + t) % 6 = 1 by omega, show (4 + t) % 6 = 2 by omega, show (5 + t) % 6 = 3 by omega]
    exact List.perm_append_comm (l₁ := [c.o5, c.o6]) (l₂ := [c.o1, c.o2, c.o3, c.o4])
  · rw [show (0 + t) % 6 = 5 by omega, show (1 + t) % 6 = 0 by omega, show (2 + t) % 6 = 1 by omega, show (3 + t) % 6 = 2 by omega, show (4 + t) % 6 = 3 by omega, show (5 + t) % 6 = 4 by omega]
    exact List.perm_append_comm (l₁ := [c.o6]) (l₂ := [c.o1, c.o2, c.o3, c.o4, c.o5])
set_option maxRecDepth 4000 in
theorem order_twice (x a b c d : Int) : orderT [x, x, a, b, c, d] = false := by
  have hs := count_sum [a, b, c, d]
  refine Bool.eq_false_iff.2 fun h => ?_
  unfold orderT at h
  simp only [List.all_cons, List.all_nil, Bool.and_true, Bool.and_eq_true, beq_iff_eq] at h
  simp only [List.length_cons, List.length_nil] at h hs
  obtain ⟨h1, h2, h3, h4, h5, h6⟩ := h
  rw [List.count_cons, List.count_cons] at h1 h2 h3 h4 h5 h6
  simp only [beq_iff_eq] at h1 h2 h3 h4 h5 h6
  split at h1 <;> split at h2 <;> split at h3 <;> split at h4 <;> split at h5 <;> split at h6 <;> omega
/-- A schema's cells with other classes, and another cap. -/
def withO (c : ScC) (f : Nat → Int) (cap : Int) : ScC := ⟨c.R, c.nr, c.cr, c.e, f 0, f 1, f 2, f 3, f 4, f 5, cap⟩
/-- The first k places taken from g, the others from f. -/
def mixO (f g : Nat → Int) (k : Nat) (i : Nat) : Int := if i < k then g i else f i
set_option maxRecDepth 4000 in
theorem put_order (c : ScC) (f g : Nat → Int) (cap : Int) (k : Nat) (hk : k < 6) : putAll (withO c (mixO f g k) cap).row (9 + k) [.int .i64 (g k)] = (withO c (mixO f g (k + 1)) cap).row := by
  match k, hk with
  | 0, _ => rfl
  | 1, _ => rfl
  | 2, _ => rfl
  | 3, _ => rfl
  | 4, _ => rfl
  | 5, _ => rfl
def withS (s : SchT) (l : List Int) (cap : Int) : SchT := ⟨s.rules, s.els, l, cap⟩
set_option maxRecDepth 4000 in
theorem with_at {w : World} {c : ScC} {s : SchT} (h : ScAt w c s) (f : Nat → Int) (cap : Int) : ScAt w (withO c f cap) (withS s [f 0, f 1, f 2, f 3, f 4, f 5] cap) := ⟨rfl, rfl, h.els, h.len, h.cap, h.max, h.rules⟩
set_option maxRecDepth 4000 in
theorem with_ok {s : SchT} {l : List Int} {cap : Int} (h : okSch s = true) (hl : orderT l = orderT s.order) (hc : 1 ≤ cap ∧ cap ≤ 1048576) : ansE (withS s l cap) = 0 := by
  unfold ansE
  rw [check_turn (s := s) (t := withS s l cap) rfl rfl hl hc h]
  rfl
set_option maxRecDepth 4000 in
theorem with_no {s : SchT} {l : List Int} {cap : Int} (hl : orderT l = false) : ansE (withS s l cap) = 12 := by
  unfold ansE
  have e : okSch (withS s l cap) = false := by
    unfold okSch okSchA withS
    simp only [hl]
    simp
  rw [e]
  rfl

set_option maxRecDepth 100000 in
set_option maxHeartbeats 8000000 in
theorem order_law {w : World} {c : ScC} {s : SchT} (h : ScAt w c s) (hfit : ∀ r ∈ allT s, FitR r) (hby : (s.rules.length + 1) * 112 ≤ 140737488355328) (n : Int) {t : Int} (ht : (Lit.int .u8 t).wf = true) : Calls Try.prog 6 #[.agg c.row, .int .i64 n, .int .u8 t] w (AllTrue w) := by
  have hb : Below w.heap.size w (w.alloc (.cells c.row 30)) := (Below.refl _ _).alloc (Nat.le_refl _) _
  have hv := VarR.new w 30 c.row
  obtain ⟨W0, hW⟩ : ∃ W0, w.alloc (.cells c.row 30) = W0 := ⟨_, rfl⟩
  rw [hW] at hb hv
  have HFW := fun (W : World) (hb : Below w.heap.size w W) => hd (few15_any (h.later hb) hby)
  have HCK := fun (W : World) (hb : Below w.heap.size w W) => hd (check_any15 (h.later hb) hfit)
  have HFIT := hd hfit
  have HS := hd h
  have HW := hd hW
  have HB := hd hb
  have V1 := hd hv
  have hu : 0 ≤ t ∧ t ≤ 255 := by
    have e1 : IntKind.u8.min = 0 := by decide
    have e2 : IntKind.u8.max = 255 := by decide
    simp [Lit.wf, e1, e2] at ht
    exact ht
  obtain ⟨tn, rfl⟩ : ∃ tn : Nat, t = (tn : Int) := ⟨t.toNat, by omega⟩
  have htn : tn ≤ 255 := by omega
  clear h hfit hby hb hv hW ht hu
  by_cases n1 : n < 1
  · go_enter Try.func6, Try.ntmps6
    go_upto_region 1 with fail
    rw [HW.out]
    go_wp2_with (first
      | (go_at_call 7; refine (live15_any _).mono ?_; rintro e9 w1 ⟨rfl, b9⟩; have V1 := hd (V1.out.keep b9); have HB := hd (step_b HB.out b9); clear b9)
      | ((with_reducible refine gd_load (ty := 30) (x := .tmp 3) ?_); refine wpList_load_row rowT_sch V1.out rfl _ rfl rfl rfl ?_)
      | ((with_reducible refine gd_loadg (ty := 30) (x := .tmp 3) ?_); refine wpList_load_rowg rowT_sch V1.out rfl _ rfl (by rfl) rfl ?_)
      | (go_at_call 8; refine (HFW _ HB.out).out.mono ?_; rintro e9 w2 ⟨B, rfl, b9⟩; have V1 := hd (V1.out.keep b9); have HB := hd (step_b HB.out b9); clear b9)
      | (go_at_call 11; refine (HCK _ HB.out).out.mono ?_; rintro e9 w4 ⟨rfl, b9⟩; have V1 := hd (V1.out.keep b9); have HB := hd (step_b HB.out b9); clear b9))
    all_goals (go_ret; exact ⟨rfl, HB.out⟩)
  · have d1 : decide (n < 1) = false := dec_no n1
    by_cases n2 : 1048576 < n
    · go_enter Try.func6, Try.ntmps6
      go_upto_region 1 with fail
      rw [HW.out]
      go_wp2_with (first
        | (go_at_call 7; refine (live15_any _).mono ?_; rintro e9 w1 ⟨rfl, b9⟩; have V1 := hd (V1.out.keep b9); have HB := hd (step_b HB.out b9); clear b9)
        | ((with_reducible refine gd_load (ty := 30) (x := .tmp 3) ?_); refine wpList_load_row rowT_sch V1.out rfl _ rfl rfl rfl ?_)
        | ((with_reducible refine gd_loadg (ty := 30) (x := .tmp 3) ?_); refine wpList_load_rowg rowT_sch V1.out rfl _ rfl (by rfl) rfl ?_)
        | (go_at_call 8; refine (HFW _ HB.out).out.mono ?_; rintro e9 w2 ⟨B, rfl, b9⟩; have V1 := hd (V1.out.keep b9); have HB := hd (step_b HB.out b9); clear b9)
        | (go_at_call 11; refine (HCK _ HB.out).out.mono ?_; rintro e9 w4 ⟨rfl, b9⟩; have V1 := hd (V1.out.keep b9); have HB := hd (step_b HB.out b9); clear b9))
      all_goals (go_ret; exact ⟨rfl, HB.out⟩)
    · have d2 : decide (1048576 < n) = false := dec_no n2
      cases hok : okSch s with
      | false =>
        have HAE := hd (show ansE s = 12 by unfold ansE; rw [hok]; rfl)
        simp only [HAE.out] at HCK
        clear hok
        go_enter Try.func6, Try.ntmps6
        go_upto_region 1 with fail
        rw [HW.out]
        go_wp2_with (first
          | (go_at_call 7; refine (live15_any _).mono ?_; rintro e9 w1 ⟨rfl, b9⟩; have V1 := hd (V1.out.keep b9); have HB := hd (step_b HB.out b9); clear b9)
          | ((with_reducible refine gd_load (ty := 30) (x := .tmp 3) ?_); refine wpList_load_row rowT_sch V1.out rfl _ rfl rfl rfl ?_)
          | ((with_reducible refine gd_loadg (ty := 30) (x := .tmp 3) ?_); refine wpList_load_rowg rowT_sch V1.out rfl _ rfl (by rfl) rfl ?_)
          | (go_at_call 8; refine (HFW _ HB.out).out.mono ?_; rintro e9 w2 ⟨B, rfl, b9⟩; have V1 := hd (V1.out.keep b9); have HB := hd (step_b HB.out b9); clear b9)
          | (go_at_call 11; refine (HCK _ HB.out).out.mono ?_; rintro e9 w4 ⟨rfl, b9⟩; have V1 := hd (V1.out.keep b9); have HB := hd (step_b HB.out b9); clear b9))
        all_goals (go_ret; exact ⟨rfl, HB.out⟩)
      | true =>
        have HAE := hd (show ansE s = 0 by unfold ansE; rw [hok]; rfl)
        simp only [HAE.out] at HCK
        have HOK := hd hok
        clear hok
        have HORD := hd (show s.order = [ordQ c 0, ordQ c 1, ordQ c 2, ordQ c 3, ordQ c 4, ordQ c 5] from HS.out.hord)
        have HC1 := fun (W : World) (hb : Below w.heap.size w W) => hd (check_any15 (with_at (HS.out.later hb) (turnQ c tn) n) HFIT.out)
        have HA1 := hd (show ansE (withS s [turnQ c tn 0, turnQ c tn 1, turnQ c tn 2, turnQ c tn 3, turnQ c tn 4, turnQ c tn 5] n) = 0 from with_ok HOK.out (by rw [HORD.out]; exact order_perm (turn_perm c tn)) (by omega))
        simp only [HA1.out] at HC1
        have HC2 := fun (W : World) (hb : Below w.heap.size w W) => hd (check_any15 (with_at (HS.out.later hb) (fun i => if i = 0 then turnQ c tn 1 else turnQ c tn i) n) HFIT.out)
        have HA2 := hd (show ansE (withS s [turnQ c tn 1, turnQ c tn 1, turnQ c tn 2, turnQ c tn 3, turnQ c tn 4, turnQ c tn 5] n) = 12 from with_no (order_twice _ _ _ _ _))
        go_enter Try.func6, Try.ntmps6
        go_upto_region 1 with fail
        rw [HW.out]
        go_upto_region 5 with (first
          | (go_at_call 7; refine (live15_any _).mono ?_; rintro e9 w1 ⟨rfl, b9⟩; have V1 := hd (V1.out.keep b9); have HB := hd (step_b HB.out b9); clear b9)
          | ((with_reducible refine gd_load (ty := 30) (x := .tmp 3) ?_); refine wpList_load_row rowT_sch V1.out rfl _ rfl rfl rfl ?_)
          | ((with_reducible refine gd_loadg (ty := 30) (x := .tmp 3) ?_); refine wpList_load_rowg rowT_sch V1.out rfl _ rfl (by rfl) rfl ?_)
          | (go_at_call 8; refine (HFW _ HB.out).out.mono ?_; rintro e9 w2 ⟨B, rfl, b9⟩; have V1 := hd (V1.out.keep b9); have HB := hd (step_b HB.out b9); clear b9)
          | (go_at_call 11; refine (HCK _ HB.out).out.mono ?_; rintro e9 w4 ⟨rfl, b9⟩; have V1 := hd (V1.out.keep b9); have HB := hd (step_b HB.out b9); clear b9))
        rotate_left
        · go_ret
          exact ⟨rfl, HB.out⟩
        · have hs := HB.out.size
          obtain ⟨g, hg⟩ : ∃ g, w4.heap.size = g := ⟨_, rfl⟩
          obtain ⟨W5, hW5⟩ : ∃ W5, w4.alloc (.cells c.row 30) = W5 := ⟨_, rfl⟩
          have hb5 : Below w4.heap.size w4 W5 := hW5 ▸ (Below.refl _ _).alloc (Nat.le_refl _) _
          have V7 := hd (show VarR 30 W5 g c.row by rw [← hW5, ← hg]; exact VarR.new w4 _ _)
          have HNE := hd (show w.heap.size ≠ g by have := V1.out.lt; omega)
          have HGL := hd (show w.heap.size ≤ g by omega)
          have HW5 := hd hW5
          have HG := hd hg
          have HB5 := hd hb5
          clear hW5 hg hb5 hs
          go_upto_region 6 with (first
            | ((with_reducible refine gd_load (ty := 30) (x := .tmp 3) ?_); refine wpList_load_row rowT_sch V1.out rfl _ rfl rfl rfl ?_)
            | ((with_reducible refine gd_store (ty := 30) (x := .tmp 7) ?_); refine wpList_store_new rowT_sch (r := c.row) rfl rfl c.one _ _ rfl rfl rfl rfl rfl rfl ?_))
          rw [HW5.out, HG.out]
          have V1 := hd (V1.out.keep HB5.out)
          have HB := hd (step_b HB.out HB5.out)
          go_upto_region 7 with ((with_reducible refine gd_store (ty := 3) (x := .tmp 29) ?_); refine wpList_store_part sz_int15 V7.out _ _ rfl rfl rfl 15 (.int .i64 n) [.int .i64 n] rfl rfl rfl rfl (by simp [Value.oneCell']) (by show (16 : Nat) ≤ 16; decide) (r' := (withO c (mixO (ordQ c) (turnQ c tn) 0) n).row) rfl ?_; intro W6 hv6 ho6; have V7 := hd hv6; have V1 := hd (V1.out.off ho6 HNE.out); have HB := hd (off_below HB.out ho6 HGL.out); clear hv6 ho6)
          go_wp2_with fail
          go_loopw [30] (fun i wr => ∃ k : Nat, k ≤ 6 ∧ i = .int .i64 k ∧ Hid (VarR 30 wr g (withO c (mixO (ordQ c) (turnQ c tn) k) n).row) ∧ Hid (VarR 30 wr w.heap.size c.row) ∧ Hid (Below w.heap.size w wr)) (fun i _ => 6 - (intOf i).toNat)
          case atStart => exact ⟨0, by omega, rfl, V7, V1, HB⟩
          case round =>
            obtain ⟨k, hk1, rfl, V7, V1, HB⟩ := hrel
            by_cases hlt : k < 6
            · obtain ⟨m, hm⟩ : ∃ m, m = (k + tn) % 6 := ⟨_, rfl⟩
              have hm6 : m < 6 := by omega
              have hmod : ((k : Int) + (tn : Int)).tmod 6 = (m : Int) := by rw [Int.tmod_eq_emod_of_nonneg (by omega)]; omega
              have HV := hd (show turnQ c tn k = ordQ c m by rw [hm]; rfl)
              have lc : wr.cell? ⟨w.heap.size, 9 + m, none⟩ = some (.int .i64 (ordQ c m)) := ordQ_cell V1.out hm6
              have HPUT := hd (put_order c (ordQ c) (turnQ c tn) n k hlt)
              clear hm
              rw [HV.out] at HPUT
              go_wp2_with (first
                | ((with_reducible refine gd_store (ty := 3) (x := .tmp 43) ?_); refine wpList_store_part sz_int15 V7.out _ _ rfl rfl rfl (9 + k) (.int .i64 (ordQ c m)) [.int .i64 (ordQ c m)] rfl rfl rfl rfl (by simp [Value.oneCell']) (by show 9 + k + 1 ≤ 16; omega) HPUT.out ?_; intro W7 hv7 ho7; have V7 := hd hv7; have V1 := hd (V1.out.off ho7 HNE.out); have HB := hd (off_below HB.out ho7 HGL.out); clear hv7 ho7))
              go_roundw
              case rel => exact ⟨k + 1, by omega, by go_num, V7, V1, HB⟩
              case measure => simp [intOf]; omega
            · obtain rfl : k = 6 := by omega
              have V7 := hd (show VarR 30 wr g (withO c (turnQ c tn) n).row from V7.out)
              go_upto_region 12 with fail
              have l10 : wr.cell? ⟨g, 10, none⟩ = some (.int .i64 (turnQ c tn 1)) := V7.out.cell 10 _ rfl
              go_wp2_with (first
                | ((with_reducible refine gd_load (ty := 30) (x := .tmp 7) ?_); refine wpList_load_row rowT_sch V7.out rfl _ rfl rfl rfl ?_)
                | (go_at_call 11; have h9 := HC1; clear HC1; refine (h9 _ HB.out).out.mono ?_; clear h9 l10; rintro e9 w8 ⟨rfl, b9⟩; have V7 := hd (V7.out.keep b9); have HB := hd (step_b HB.out b9); have l10 : w8.cell? ⟨g, 10, none⟩ = some (.int .i64 (turnQ c tn 1)) := V7.out.cell 10 _ rfl; clear b9)
                | ((with_reducible refine gd_store (ty := 3) (x := .tmp 52) ?_); refine wpList_store_part sz_int15 V7.out _ _ rfl rfl rfl 9 (.int .i64 (turnQ c tn 1)) [.int .i64 (turnQ c tn 1)] rfl rfl rfl rfl (by simp [Value.oneCell']) (by show 9 + 1 ≤ 16; decide) (r' := (withO c (fun i => if i = 0 then turnQ c tn 1 else turnQ c tn i) n).row) rfl ?_; intro W9 hv9 ho9; have V7 := hd hv9; have HB := hd (off_below HB.out ho9 HGL.out); clear hv9 ho9)
                | (go_at_call 11; refine (HC2 _ HB.out).out.mono ?_; rintro e9 wa ⟨rfl, b9⟩; have HB := hd (step_b HB.out b9); clear b9))
              go_ret
              exact ⟨ret_bool (by rw [HA2.out]; rfl), HB.out⟩

end Go.Proofs.Ytegaapeaeffgoaa
