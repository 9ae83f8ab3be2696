/- Schemas: plain functions and facts; no program is named here. The calls on single bytes and on keys and values answer what the plain functions say; the world stays as it was. Check answers what is wrong with a list first; old memory stays as it was. A tree whose blocks meet a condition, none of its cells frozen; fresh lists of properties and of runes. The document's names and actions that may be. The document's rule of a type, what a rule does with a type. The program's rule of a type, the schema's own and a copy; what a rule does with a node. The document's fills. -/
import Derived.Test.YtegaapeaeffgoaaJPSpec
import Derived.Laws.Strings
import Derived.Test.YtegaapeaeffgoaaProg
import Derived.WalkKit
import Derived.WalkLawsBesides
import Derived.WalkSpells
import Derived.LoopTactic
import Derived.Outline
import Derived.Deep.Draws
import Derived.Deep.QuietTactic
import Derived.BigQuiet
import Derived.Below
import Derived.Laws.OwnMore
import Derived.Laws.MakeOwn
import Derived.Maps.AppendAt
import Derived.Deep.AppendLies
import Derived.RegionTactic
import Derived.OwnWalk
import Derived.WideShapes
import Derived.IntWalk
import Derived.Test.YtegaapeaeffgoaaJAOpen2
import Derived.Laws.EntriesVeiled
import Derived.Shelf.Abstract
import Derived.Laws.IdiomStrings
import Derived.Deep.RegionHeld3
import Derived.Test.YtegaapeaeffgoaaRows
import Derived.ProofKit
import Derived.Deep.Slices
import Derived.SizedLaws
import Derived.OpenShut
import Derived.Deep.MidRow
import Derived.Test.YtegaapeaeffgoaaJASeek
import Derived.Laws.AppendOwnNone
import Derived.Deep.DeepCutAuto
import Derived.Deep.CutBlock
import Derived.Deep.RegionLaw
import Derived.StillTailTactics
import Derived.ArgAppend
import Derived.Lib.SliceRun
import Derived.Lib.AppendZeros
import Derived.Deep.Cut
import Derived.BigRegion
import Derived.Laws.Tables
import Derived.Laws.ResultCell
import Derived.Maps.OwnOps
import Derived.Test.YtegaapeaeffgoaaJAFormed2
namespace Go.Proofs.Ytegaapeaeffgoaa
/-! What follows of a schema that may be. -/

/-! Fills. -/
set_option maxRecDepth 4000 in
theorem check_fill {s : SchT} {r : RuleT} (h : okSch s = true) (hr : r ∈ allT s) : filledT r = true ∧ ∃ n, fillsT s r = some n := by
  unfold okSch at h
  rw [Bool.and_eq_true] at h
  have hw := List.all_eq_true.1 h.2 r hr
  rw [Bool.and_eq_true, Bool.and_eq_true] at hw
  exact ⟨hw.2.1, Option.isSome_iff_exists.1 hw.2.2⟩

/-! The order of the classes. -/
end Go.Proofs.Ytegaapeaeffgoaa

namespace Go.Proofs.Ytegaapeaeffgoaa
open Go.RowKit
set_option maxRecDepth 4000 in
set_option maxHeartbeats 1000000 in
theorem rval_any (s : ByteArray) (w : World) (hs : s.size ≤ 9223372036854775807) : Calls Try.prog 49 #[.string s] w fun e w' => e = .returned (.bool (valB s)) ∧ w = w' := by
  go_enter Try.func49, Try.ntmps49
  go_wp2
  go_loop [7] (fun i => ∃ k : Nat, k ≤ s.size ∧ i = .int .i64 k ∧ Hid (∀ j (hj : j < s.size), j < k → isVal s[j] = true)) (fun i => s.size - (intOf i).toNat)
  case atStart => exact ⟨0, Nat.zero_le _, rfl, fun j _ hj => absurd hj (Nat.not_lt_zero _)⟩
  case round =>
    obtain ⟨k, hk, rfl, HA⟩ := hrel
    by_cases hlt : k < s.size
    · by_cases ha : (97 : Int) ≤ (s[k].toNat : Int)
      · by_cases hb : (s[k].toNat : Int) ≤ 122
        · have HF := more isVal s k hlt HA ((val_cases _).2 (by omega))
          clear HA
          go_wp2
          go_round
          case rel => exact ⟨k + 1, by omega, by go_num, HF⟩
          case measure => simp [intOf]; omega
        · have HF := hd (all_fails isVal s k hlt (val_not (by omega)))
          have hx : (48 : Int) ≤ (s[k].toNat : Int) := by omega
          have hx2 : ¬ (s[k].toNat : Int) ≤ 57 := by omega
          have hx3 : ((s[k].toNat : Int) == 45) = false := by simp; omega
          clear HA
          go_wp2
          go_ret
          exact ⟨ret_bool (by unfold valB; rw [HF.out]; simp), rfl⟩
      · have ha' : decide ((97 : Int) ≤ (s[k].toNat : Int)) = false := dec_no ha
        by_cases hx : (48 : Int) ≤ (s[k].toNat : Int)
        · by_cases hx2 : (s[k].toNat : Int) ≤ 57
          · have HF := more isVal s k hlt HA ((val_cases _).2 (by omega))
            clear HA
            go_wp2
            go_round
            case rel => exact ⟨k + 1, by omega, by go_num, HF⟩
            case measure => simp [intOf]; omega
          · have HF := hd (all_fails isVal s k hlt (val_not (by omega)))
            have hx3 : ((s[k].toNat : Int) == 45) = false := by simp; omega
            clear HA
            go_wp2
            go_ret
            exact ⟨ret_bool (by unfold valB; rw [HF.out]; simp), rfl⟩
        · have hx' : decide ((48 : Int) ≤ (s[k].toNat : Int)) = false := dec_no hx
          cases hx3 : ((s[k].toNat : Int) == 45)
          · have HF := hd (all_fails isVal s k hlt (val_not (by have h9 : ¬ (s[k].toNat : Int) = 45 := (by simpa using hx3); omega)))
            clear HA
            go_wp2
            go_ret
            exact ⟨ret_bool (by unfold valB; rw [HF.out]; simp), rfl⟩
          · have HF := more isVal s k hlt HA ((val_cases _).2 (by have h9 : (s[k].toNat : Int) = 45 := (by simpa using hx3); omega))
            clear HA
            go_wp2
            go_round
            case rel => exact ⟨k + 1, by omega, by go_num, HF⟩
            case measure => simp [intOf]; omega
    · obtain rfl : k = s.size := by omega
      have HF := hd (all_take isVal s (fun j hj => HA.out j hj hj))
      clear HA
      go_wp2
      go_ret
      exact ⟨ret_bool (by unfold valB; rw [HF.out]; simp; omega), rfl⟩

end Go.Proofs.Ytegaapeaeffgoaa

namespace Go.Proofs.Ytegaapeaeffgoaa
open Go.RowKit
set_option maxRecDepth 4000 in
theorem rval_is (s : ByteArray) (b : Bool) (h : valB s = b) (w : World) (hs : s.size ≤ 9223372036854775807) : Calls Try.prog 49 #[.string s] w fun e w' => e = .returned (.bool b) ∧ w = w' := h ▸ rval_any s w hs

end Go.Proofs.Ytegaapeaeffgoaa

namespace Go.Proofs.Ytegaapeaeffgoaa
open Go.RowKit
open Go.WideShapes (add_plain)
/-- The slice at A holds the values xs, in a block that meets P. -/
def VP (P : Nat → Prop) (w : World) (A : Option Addr) (xs : List Value) : Prop := ∀ k u, xs[k]? = some u → ∃ b o, A = some ⟨b, o, none⟩ ∧ P b ∧ Free w b (o + k) u
end Go.Proofs.Ytegaapeaeffgoaa

namespace Go.Proofs.Ytegaapeaeffgoaa
open Go.RowKit

set_option maxHeartbeats 1000000 in
theorem rname_any {s : Nm} (hs : FitN1 s) {E : Bool} (hE : nameT s = E) (w : World) : Calls Try.prog 25 #[.string s] w (Still (.bool E) w) := by
  obtain ⟨v, hv⟩ : ∃ v, valB s = v := ⟨_, rfl⟩
  have HV := hd hv
  have HS := hd hs
  have HE := hd hE
  clear hv hs hE
  by_cases h0 : s.toList = []
  · have h1 : s.toList.isEmpty = true := by rw [h0]; rfl
    go_enter Try.func25, Try.ntmps25
    go_wp2_with fail
    go_ret
    exact ⟨ret_bool (by rw [← HE.out, nameT, emptyN, h1]; rfl), Below.refl _ _⟩
  · have h1 : s.toList.isEmpty = false := by cases h : s.toList with
      | nil => exact absurd h h0
      | cons => rfl
    go_enter Try.func25, Try.ntmps25
    go_wp2_with (go_at_call 49; refine Calls.mono (rval_is s _ HV.out _ HS.out) ?_; rintro e w1 ⟨rfl, rfl⟩)
    go_ret
    exact ⟨ret_bool (by rw [← HE.out, nameT, emptyN, h1, HV.out]; rfl), Below.refl _ _⟩
set_option maxRecDepth 4000 in
set_option maxHeartbeats 4000000 in
theorem rformed_any {a : ActT} (hs : FitN1 a.ty) {E : Bool} (hE : formT a = E) (w : World) : Calls Try.prog 50 #[.agg #[.int .i64 a.act, .string a.ty]] w (Still (.bool E) w) := by
  obtain ⟨n, s⟩ := a
  have hb1 : Below w.heap.size w (w.alloc (.cells #[.int .i64 n, .string s] 24)) := (Below.refl _ _).alloc (Nat.le_refl _) _
  obtain ⟨v, hv⟩ : ∃ v, nameT s = v := ⟨_, rfl⟩
  have HV := hd hv
  have HS := hd (show FitN1 s from hs)
  have HE := hd hE
  have HB := hd hb1
  clear hv hs hE hb1
  by_cases h4 : n = 4
  · subst h4
    go_enter Try.func50, Try.ntmps50
    go_wp2_with (go_at_call 25; refine Calls.mono (rname_any HS.out HV.out _) ?_; rintro e w1 ⟨rfl, hb⟩; have HB := hd (HB.out.trans (hb.mono HB.out.size)); clear hb)
    go_ret
    exact ⟨ret_bool (by rw [← HE.out, formT, if_pos rfl, HV.out]), HB.out⟩
  · have e4 : (n == 4) = false := by simpa using h4
    by_cases h1 : 1 ≤ n
    · by_cases h3 : n ≤ 3
      · go_enter Try.func50, Try.ntmps50
        go_wp2_with fail
        all_goals (go_ret; exact ⟨ret_bool (by rw [← HE.out, formT, if_neg h4]; simp [emptyN, *]), HB.out⟩)
      · go_enter Try.func50, Try.ntmps50
        go_wp2_with fail
        all_goals (go_ret; exact ⟨ret_bool (by rw [← HE.out, formT, if_neg h4]; simp; intros; omega), HB.out⟩)
    · go_enter Try.func50, Try.ntmps50
      go_wp2_with fail
      all_goals (go_ret; exact ⟨ret_bool (by rw [← HE.out, formT, if_neg h4]; simp; intros; omega), HB.out⟩)

end Go.Proofs.Ytegaapeaeffgoaa

namespace Go.Proofs.Ytegaapeaeffgoaa
open Go.RowKit
set_option maxRecDepth 100000 in
set_option maxHeartbeats 4000000 in
theorem ract_any {w : World} {c : RuC} {r : RuleT} (h : RuAt w c r) (hl : r.kids.length ≤ 10000) {k : Nm} {E : ActT} (hE : actT r k = E) : Calls Try.prog 52 #[.agg c.row, .string k] w (Still (.agg #[.int .i64 E.act, .string E.ty]) w) := by
  obtain ⟨ty, td, tt, od, ot, K, nk, ck, fill, fty⟩ := c
  obtain ⟨W0, hW, hb, v1, v2⟩ := arows2 w 27 24 (RuC.mk ty td tt od ot K nk ck fill fty).row #[.int .i64 0, .string ⟨#[]⟩]
  have HR := hd h
  have HN := hd (show r.kids.length = nk from h.len)
  have hlk : nk ≤ 10000 := HN.out ▸ hl
  have HE := hd hE
  have HW := hd hW
  have HB := hd hb
  have V1 := hd v1
  have V2 := hd v2
  have l3 : W0.cell? ⟨w.heap.size, 5, none⟩ = some (.slice K nk ck) := v1.cell 5 _ rfl
  clear h hl hE hW hb v1 v2
  go_enter Try.func52, Try.ntmps52
  go_upto_region 1 with fail
  rw [HW.out]
  go_wp2_with fail
  clear l3
  go_loopw [10] (fun i wr => ∃ n : Nat, n ≤ nk ∧ i = .int .i64 n ∧ Hid (∀ j, j < n → eqN (kidAt r.kids j).ty k = false) ∧ Hid (Below W0.heap.size W0 wr)) (fun i _ => nk - (intOf i).toNat)
  case atStart => exact ⟨0, Nat.zero_le _, rfl, hd (fun j hj => absurd hj (Nat.not_lt_zero _)), hd (Below.refl _ _)⟩
  case round =>
    obtain ⟨n, hn1, rfl, HA, HC⟩ := hrel
    have V1 := hd (V1.out.keep HC.out)
    have V2 := hd (V2.out.keep HC.out)
    have HB := hd (step_b HB.out HC.out)
    by_cases hlt : n < nk
    · have hlt2 : n < r.kids.length := by rw [HN.out]; exact hlt
      obtain ⟨b, o, eK, _, hrg⟩ := (HR.out.later HB.out).kid hlt2
      obtain rfl : K = some ⟨b, o, none⟩ := eK
      obtain ⟨p, hp⟩ : ∃ p, kidAt r.kids n = p := ⟨_, rfl⟩
      rw [hp] at hrg
      have HP := hd hp
      have HRG := hd hrg
      have hv9 := VarR.new wr 52 p.row
      have hb9 : Below wr.heap.size wr (wr.alloc (.cells p.row 52)) := (Below.refl _ _).alloc (Nat.le_refl _) _
      have VP := hd hv9
      have HB9 := hd hb9
      have y0 : (wr.alloc (.cells p.row 52)).cell? ⟨wr.heap.size, 0, none⟩ = some (.string p.ty) := hv9.cell 0 _ rfl
      clear hp hrg hv9 hb9
      cases ht : (p.ty.toList == k.toList)
      · have HA2 := hd (show ∀ j, j < n + 1 → eqN (kidAt r.kids j).ty k = false from fun j hj => by
          rcases Nat.lt_or_ge j n with h | h
          · exact HA.out j h
          · obtain rfl : j = n := by omega
            rw [HP.out]; exact ht)
        clear HA
        go_wp2_with (first
          | ((with_reducible refine gd_load (ty := 52) (x := .tmp 12) ?_); refine wpList_load_at rowT_pair (r := p.row) HRG.out rfl _ rfl rfl rfl ?_)
          | ((with_reducible refine gd_store (ty := 52) (x := .tmp 6) ?_); refine wpList_store_new rowT_pair (r := p.row) rfl rfl p.one _ _ rfl rfl rfl rfl rfl rfl ?_))
        go_roundw
        case rel => exact ⟨n + 1, by omega, by go_num, HA2, hd (step_b HC.out HB9.out)⟩
        case measure => simp [intOf]; omega
      · have HX := hd (show (kidAt r.kids n).act = E from (actT_hit hlt2 HA.out (by rw [HP.out]; exact ht)).symm.trans HE.out)
        clear HA
        have V2 := hd (V2.out.keep HB9.out)
        have HB := hd (step_b HB.out HB9.out)
        obtain ⟨pty, ⟨pa, pat⟩⟩ := p
        go_wp2_with (first
          | ((with_reducible refine gd_load (ty := 52) (x := .tmp 12) ?_); refine wpList_load_at rowT_pair (r := (PairT.mk pty ⟨pa, pat⟩).row) HRG.out rfl _ rfl rfl rfl ?_)
          | ((with_reducible refine gd_store (ty := 52) (x := .tmp 6) ?_); refine wpList_store_new rowT_pair (r := (PairT.mk pty ⟨pa, pat⟩).row) rfl rfl (PairT.one _) _ _ rfl rfl rfl rfl rfl rfl ?_)
          | ((with_reducible refine gd_load (ty := 24) (x := .tmp 18) ?_); refine wpList_load_at rowT_act (r := #[.int .i64 pa, .string pat]) (VP.out.two 1 rfl rfl) rfl _ rfl rfl rfl ?_)
          | ((with_reducible refine gd_store (ty := 24) (x := .tmp 4) ?_); refine wpList_store_row2 rowT_act (r := #[.int .i64 pa, .string pat]) V2.out rfl rfl (act_one _ _) _ _ rfl rfl rfl rfl rfl ?_; intro W9 hv9 ho9; have HB := hd (off_below HB.out ho9 (Nat.le_succ _)); have V4 := hd hv9; clear hv9 ho9))
        refine bodyPost_ret (result_row rowT_act Try.results52 _ _ V4.out rfl rfl) rfl ⟨by rw [← HX.out, HP.out], HB.out⟩
    · obtain rfl : n = nk := by omega
      have HX := hd (show r.other = E from (actT_miss (fun j hj => HA.out j (by rw [← HN.out]; exact hj))).symm.trans HE.out)
      have HO := hd (show r.other = ⟨od, ot⟩ from HR.out.hother)
      clear HA
      go_wp2_with (first
        | ((with_reducible refine gd_load (ty := 24) (x := .tmp 21) ?_); refine wpList_load_at rowT_act (r := #[.int .i64 od, .string ot]) (V1.out.two 3 rfl rfl) rfl _ rfl rfl rfl ?_)
        | ((with_reducible refine gd_store (ty := 24) (x := .tmp 4) ?_); refine wpList_store_row2 rowT_act (r := #[.int .i64 od, .string ot]) V2.out rfl rfl (act_one _ _) _ _ rfl rfl rfl rfl rfl ?_; intro W9 hv9 ho9; have HB := hd (off_below HB.out ho9 (Nat.le_succ _)); have V4 := hd hv9; clear hv9 ho9))
      refine bodyPost_ret (result_row rowT_act Try.results52 _ _ V4.out rfl rfl) rfl ⟨by rw [← HX.out, HO.out], HB.out⟩
set_option maxRecDepth 100000 in
set_option maxHeartbeats 4000000 in
theorem rkeeps_any {w : World} {c : RuC} {r : RuleT} (h : RuAt w c r) (hl : r.kids.length ≤ 10000) {k : Nm} {E : Bool} (hE : keepsT r k = E) : Calls Try.prog 28 #[.agg c.row, .string k] w (Still (.bool E) w) := by
  obtain ⟨W0, hW⟩ : ∃ W0, w.alloc (.cells c.row 27) = W0 := ⟨_, rfl⟩
  have hb : Below w.heap.size w (w.alloc (.cells c.row 27)) := (Below.refl _ _).alloc (Nat.le_refl _) _
  have hv := VarR.new w 27 c.row
  rw [hW] at hb hv
  have HR := hd (ract_any (h.later hb) hl (k := k) rfl)
  have hf := run_act_0 (actT r k).act (actT r k).ty
  have HE := hd hE
  have HW := hd hW
  have HB := hd hb
  have V1 := hd hv
  clear h hl hE hW hb hv
  go_enter Try.func28, Try.ntmps28
  go_upto_region 1 with fail
  rw [HW.out]
  go_wp2_with (first
    | ((with_reducible refine gd_load (ty := 27) (x := .tmp 2) ?_); refine wpList_load_row rowT_rule V1.out rfl _ rfl rfl rfl ?_)
    | (go_at_call 52; refine HR.out.mono ?_; rintro e w1 ⟨rfl, b9⟩; have HB := hd (step_b HB.out b9); clear b9))
  go_ret
  exact ⟨ret_bool HE.out, HB.out⟩

set_option maxRecDepth 100000 in
set_option maxHeartbeats 4000000 in
theorem rruleof_any {w0 w : World} {c : ScC} {s : SchT} (h : ScAt w0 c s) (hb0 : Below w0.heap.size w0 w) (hl : s.rules.length ≤ 10000) {k : Nm} {E : RuleT} (hE : ruleT s k = E) : Calls Try.prog 48 #[.agg c.row, .string k] w (NewRu w0 w E) := by
  obtain ⟨R, nr, cr, e, o1, o2, o3, o4, o5, o6, cap⟩ := c
  obtain ⟨W0, hW, hb, v1, v2⟩ := arows2 w 30 27 (ScC.mk R nr cr e o1 o2 o3 o4 o5 o6 cap).row #[.string ⟨#[]⟩, .int .i64 0, .string ⟨#[]⟩, .int .i64 0, .string ⟨#[]⟩, .slice none 0 0, .int .i64 0, .string ⟨#[]⟩]
  have HR := hd h
  have H0 := hd hb0
  have HN := hd (show s.rules.length = nr from h.len)
  have hlk : nr ≤ 10000 := HN.out ▸ hl
  have HE := hd hE
  have HW := hd hW
  have HB := hd hb
  have V1 := hd v1
  have V2 := hd v2
  have l3 : W0.cell? ⟨w.heap.size, 0, none⟩ = some (.slice R nr cr) := v1.cell 0 _ rfl
  clear h hb0 hl hE hW hb v1 v2
  go_enter Try.func48, Try.ntmps48
  go_upto_region 1 with fail
  rw [HW.out]
  go_wp2_with fail
  clear l3
  go_loopw [10] (fun i wr => ∃ n : Nat, n ≤ nr ∧ i = .int .i64 n ∧ Hid (∀ j, j < n → eqN (rulAt s.rules j).ty k = false) ∧ Hid (Below W0.heap.size W0 wr)) (fun i _ => nr - (intOf i).toNat)
  case atStart => exact ⟨0, Nat.zero_le _, rfl, hd (fun j hj => absurd hj (Nat.not_lt_zero _)), hd (Below.refl _ _)⟩
  case round =>
    obtain ⟨n, hn1, rfl, HA, HC⟩ := hrel
    have V1 := hd (V1.out.keep HC.out)
    have V2 := hd (V2.out.keep HC.out)
    have HB := hd (step_b HB.out HC.out)
    by_cases hlt : n < nr
    · have hlt2 : n < s.rules.length := by rw [HN.out]; exact hlt
      obtain ⟨cs, hcs⟩ := HR.out.rules
      obtain ⟨b, o, p, eK, hbl, _, hrp, hrg⟩ := hcs.at_ hlt2
      obtain rfl : R = some ⟨b, o, none⟩ := eK
      have HP := hd hrp
      have HRG := hd (rangeAt_later hrg hbl (step_b H0.out HB.out))
      have hv9 := VarR.new wr 27 p.row
      have hb9 : Below wr.heap.size wr (wr.alloc (.cells p.row 27)) := (Below.refl _ _).alloc (Nat.le_refl _) _
      have VP := hd hv9
      have HB9 := hd hb9
      have y0 : (wr.alloc (.cells p.row 27)).cell? ⟨wr.heap.size, 0, none⟩ = some (.string p.ty) := hv9.cell 0 _ rfl
      clear hcs hrp hrg hbl hv9 hb9
      cases ht : (p.ty.toList == k.toList)
      · have HA2 := hd (show ∀ j, j < n + 1 → eqN (rulAt s.rules j).ty k = false from fun j hj => by
          rcases Nat.lt_or_ge j n with h | h
          · exact HA.out j h
          · obtain rfl : j = n := by omega
            rw [HP.out.hty]; exact ht)
        clear HA
        go_wp2_with (first
          | ((with_reducible refine gd_load (ty := 27) (x := .tmp 12) ?_); refine wpList_load_at rowT_rule (r := p.row) HRG.out rfl _ rfl rfl rfl ?_)
          | ((with_reducible refine gd_store (ty := 27) (x := .tmp 6) ?_); refine wpList_store_new rowT_rule (r := p.row) rfl rfl p.one _ _ rfl rfl rfl rfl rfl rfl ?_))
        go_roundw
        case rel => exact ⟨n + 1, by omega, by go_num, HA2, hd (step_b HC.out HB9.out)⟩
        case measure => simp [intOf]; omega
      · have HX := hd (show rulAt s.rules n = E from (ruleT_hit hlt2 HA.out (by rw [HP.out.hty]; exact ht)).symm.trans HE.out)
        clear HA
        have V2 := hd (V2.out.keep HB9.out)
        have HB := hd (step_b HB.out HB9.out)
        go_wp2_with (first
          | ((with_reducible refine gd_load (ty := 27) (x := .tmp 12) ?_); refine wpList_load_at rowT_rule (r := p.row) HRG.out rfl _ rfl rfl rfl ?_)
          | ((with_reducible refine gd_store (ty := 27) (x := .tmp 6) ?_); refine wpList_store_new rowT_rule (r := p.row) rfl rfl p.one _ _ rfl rfl rfl rfl rfl rfl ?_)
          | ((with_reducible refine gd_load (ty := 27) (x := .tmp 6) ?_); refine wpList_load_row rowT_rule VP.out rfl _ rfl rfl rfl ?_)
          | ((with_reducible refine gd_store (ty := 27) (x := .tmp 4) ?_); refine wpList_store_row2 rowT_rule (r := p.row) V2.out rfl rfl p.one _ _ rfl rfl rfl rfl rfl ?_; intro W9 hv9 ho9; have HB := hd (off_below HB.out ho9 (Nat.le_succ _)); have V4 := hd hv9; clear hv9 ho9))
        refine bodyPost_ret (result_row rowT_rule Try.results48 _ _ V4.out rfl rfl) rfl ⟨p, rfl, by rw [← HX.out]; exact HP.out, HB.out⟩
    · obtain rfl : n = nr := by omega
      have HX := hd (show s.els = E from (ruleT_miss (fun j hj => HA.out j (by rw [← HN.out]; exact hj))).symm.trans HE.out)
      have HO := hd (show RuAt w0 e s.els from HR.out.els)
      clear HA
      go_wp2_with (first
        | ((with_reducible refine gd_load (ty := 27) (x := .tmp 20) ?_); refine wpList_load_at rowT_rule (r := e.row) (V1.out.range 1 _ (ScC.els_at ⟨R, n, cr, e, o1, o2, o3, o4, o5, o6, cap⟩)) rfl _ rfl rfl rfl ?_)
        | ((with_reducible refine gd_store (ty := 27) (x := .tmp 4) ?_); refine wpList_store_row2 rowT_rule (r := e.row) V2.out rfl rfl e.one _ _ rfl rfl rfl rfl rfl ?_; intro W9 hv9 ho9; have HB := hd (off_below HB.out ho9 (Nat.le_succ _)); have V4 := hd hv9; clear hv9 ho9))
      refine bodyPost_ret (result_row rowT_rule Try.results48 _ _ V4.out rfl rfl) rfl ⟨e, rfl, by rw [← HX.out]; exact HO.out, HB.out⟩

end Go.Proofs.Ytegaapeaeffgoaa

namespace Go.Proofs.Ytegaapeaeffgoaa
open Go.RowKit
set_option maxRecDepth 4000 in
theorem strG : ElemG 77 9 1 16 := ⟨Try.underlying77, by
  obtain ⟨i0, hi, hz0, hz1, hz2⟩ := info_parts strInfo
  exact ⟨i0, _, hi, hz0, hz1, hz2, rfl⟩, by decide⟩
end Go.Proofs.Ytegaapeaeffgoaa

namespace Go.Proofs.Ytegaapeaeffgoaa
open Go.RowKit
set_option maxRecDepth 100000 in
set_option maxHeartbeats 4000000 in
theorem rfills_any {w : World} {c : ScC} {s : SchT} {d : RuC} {r : RuleT} (h : ScAt w c s) (hr : RuAt w d r) (hl : s.rules.length ≤ 10000) {F : Option Nat} (hF : fillsT s r = F) : Calls Try.prog 24 #[.agg c.row, .agg d.row] w (Still (fansT F) w) := by
  obtain ⟨R, nr, cr, e, o1, o2, o3, o4, o5, o6, cap⟩ := c
  obtain ⟨W0, hW, hb, v1, v2⟩ := arows2 w 30 27 (ScC.mk R nr cr e o1 o2 o3 o4 o5 o6 cap).row d.row
  have HS := hd h
  have HR := hd hr
  have HN := hd (show s.rules.length = nr from h.len)
  have hlk : nr ≤ 10000 := HN.out ▸ hl
  have HF := hd (show (fillsN s (nr + 2) r).map (· + 0) = F by rw [← HN.out, ← hF]; simp [fillsT])
  have HW := hd hW
  have HB := hd hb
  have V1 := hd v1
  have V2 := hd v2
  have l3 : W0.cell? ⟨w.heap.size, 0, none⟩ = some (.slice R nr cr) := v1.cell 0 _ rfl
  clear h hr hl hF hW hb v1 v2
  go_enter Try.func24, Try.ntmps24
  go_upto_region 1 with fail
  rw [HW.out]
  go_wp2_with fail
  clear l3
  go_loopw [6, 11] (fun v i wr => ∃ n : Nat, n ≤ nr + 2 ∧ i = .int .i64 n ∧ v = .int .i64 n ∧ ∃ d' r', Hid (VarR 30 wr w.heap.size (ScC.mk R nr cr e o1 o2 o3 o4 o5 o6 cap).row) ∧ Hid (VarR 27 wr (w.heap.size + 1) d'.row) ∧ Hid (RuAt w d' r') ∧ Hid (Below w.heap.size w wr) ∧ Hid ((fillsN s (nr + 2 - n) r').map (· + n) = F)) (fun _ i _ => nr + 2 - (intOf i).toNat)
  case atStart => exact ⟨0, Nat.zero_le _, rfl, rfl, d, r, V1, V2, HR, HB, HF⟩
  case round =>
    obtain ⟨n, hn1, rfl, rfl, d', r', V1, V2, HR, HB, HF⟩ := hrel
    by_cases hlt : n < nr + 2
    · obtain ⟨m, hm⟩ : ∃ m, nr + 2 - n = m + 1 := ⟨nr + 1 - n, by omega⟩
      have y4 : wr.cell? ⟨w.heap.size + 1, 6, none⟩ = some (.int .i64 d'.fill) := V2.out.cell 6 _ rfl
      have hfl : r'.fill = d'.fill := HR.out.hfill
      have hft : r'.fty = d'.fty := HR.out.hfty
      have hF2 := HF.out
      rw [hm, fillsN, hfl, hft] at hF2
      by_cases h0 : d'.fill = 0
      · rw [if_pos h0] at hF2
        have HX := hd hF2
        have e0 : (d'.fill == 0) = true := by simpa using h0
        clear hF2 hfl hft
        go_wp2_with fail
        go_ret2
        exact ⟨by rw [← HX.out]; simp [fansT], HB.out⟩
      · have e0 : (d'.fill == 0) = false := by simpa using h0
        rw [if_neg h0] at hF2
        by_cases h1 : d'.fill = 1
        · rw [if_pos h1] at hF2
          have HX := hd hF2
          have e1 : (d'.fill == 1) = true := by simpa using h1
          clear hF2 hfl hft
          go_wp2_with fail
          go_ret2
          exact ⟨by rw [← HX.out]; simp [fansT]; omega, HB.out⟩
        · have e1 : (d'.fill == 1) = false := by simpa using h1
          rw [if_neg h1] at hF2
          have HX := hd (show (fillsN s (nr + 2 - (n + 1)) (ruleT s d'.fty)).map (· + (n + 1)) = F by
            rw [show nr + 2 - (n + 1) = m by omega, ← hF2, Option.map_map]
            congr 1
            funext x
            simp [Function.comp]; omega)
          have y5 : wr.cell? ⟨w.heap.size + 1, 7, none⟩ = some (.string d'.fty) := V2.out.cell 7 _ rfl
          have HC := hd (rruleof_any HS.out HB.out (by rw [HN.out]; exact hlk) (k := d'.fty) rfl)
          clear hF2 hfl hft
          go_wp2_with (first
            | ((with_reducible refine gd_load (ty := 30) (x := .tmp 2) ?_); refine wpList_load_row rowT_sch V1.out rfl _ rfl rfl rfl ?_)
            | (go_at_call 48; refine HC.out.mono ?_; rintro e w1 ⟨c2, rfl, hr2, b9⟩; have HR2 := hd hr2; have V1 := hd (V1.out.keep b9); have V2 := hd (V2.out.keep b9); have HB := hd (step_b HB.out b9); clear hr2 b9)
            | ((with_reducible refine gd_store (ty := 27) (x := .tmp 3) ?_); refine wpList_store_row2 rowT_rule (r := c2.row) V2.out rfl rfl c2.one _ _ rfl rfl rfl rfl rfl ?_; intro W9 hv9 ho9; have HB := hd (off_below HB.out ho9 (Nat.le_succ _)); have V1 := hd (V1.out.off ho9 (by omega)); have V2 := hd hv9; clear hv9 ho9))
          go_roundw
          case rel => exact ⟨n + 1, by omega, by go_num, by go_num, c2, _, V1, V2, HR2, HB, HX⟩
          case measure => simp [intOf]; omega
    · obtain rfl : n = nr + 2 := by omega
      have HX := hd (show (none : Option Nat) = F by have h := HF.out; rw [Nat.sub_self, fillsN] at h; exact h)
      go_wp2_with fail
      go_ret2
      exact ⟨by rw [← HX.out]; rfl, HB.out⟩

end Go.Proofs.Ytegaapeaeffgoaa
