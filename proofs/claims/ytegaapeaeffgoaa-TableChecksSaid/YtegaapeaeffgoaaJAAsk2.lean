/- asked: a leaf, an element without a type, and one of each type that is named. What is put in, and what is wrapped, is kept: keepsFill, keepsWrapped. The program's form of a schema. -/
import Derived.Test.YtegaapeaeffgoaaJANames
import Derived.Test.YtegaapeaeffgoaaJARules
namespace Go.Proofs.Ytegaapeaeffgoaa
open Go.RowKit

/-- Nodes told: a leaf, an element without a type, one of each type that S takes. -/
def NewAsk (w : World) (S : Nm → Prop) (e : Ending) (w' : World) : Prop := ∃ (A : Option Addr) (n c : Nat) (cs : List NC) (qs : List (Option Nm)), e = .returned (.slice A n c) ∧ cs.length = n ∧ qs.length = n ∧ n ≤ 4000 ∧ VL w' w'.heap.size A (cellsN cs) ∧ (∀ (k : Nat) (c : NC) (q : Option Nm), cs[k]? = some c → qs[k]? = some q → QAt w' c q) ∧ (∀ q, q ∈ qs ↔ q = none ∨ q = some noN ∨ ∃ k, S k ∧ q = some k) ∧ Below w.heap.size w w'
set_option maxRecDepth 4000 in
theorem own_later {w w' : World} {base n size : Nat} {v : Value} {t : TypeId} {xs : List Value} (h : w.ownsRow base t size v n xs) (hb : Below w.heap.size w w') : w'.ownsRow base t size v n xs := by
  refine ⟨h.1, ?_⟩
  rcases h.2 with e | ⟨q, cap, cur, e, hbg, hq, rest⟩
  · exact .inl e
  · exact .inr ⟨q, cap, cur, e, hbg, (hb.block q (Array.getElem?_eq_some_iff.1 hq).1).trans hq, rest⟩
def nmAt (l : List Nm) (k : Nat) : Nm := l.getD k noN
set_option maxRecDepth 4000 in
theorem nmAt_mem {l : List Nm} {k : Nat} (h : k < l.length) : nmAt l k = l[k] := by simp [nmAt, List.getD, h]
set_option maxRecDepth 4000 in
theorem vl_strs {w : World} {B : Nat} {A : Option Addr} {ts : List Nm} (h : VL w B A (ts.map Value.string)) {k : Nat} (hk : k < ts.length) : ∃ b o, A = some ⟨b, o, none⟩ ∧ b < B ∧ w.cell? ⟨b, o + k, none⟩ = some (.string (nmAt ts k)) := by
  obtain ⟨b, o, e, hb, hc⟩ := h (fun e => by
    have := congrArg List.length e
    simp at this
    subst this
    simp at hk)
  exact ⟨b, o, e, hb, hc k _ (by rw [List.getElem?_map, List.getElem?_eq_getElem hk, nmAt_mem hk]; rfl)⟩
set_option maxRecDepth 100000 in
set_option maxHeartbeats 8000000 in
theorem asked_any {w : World} {c : ScC} {s : SchT} (h : ScAt w c s) (hl : s.rules.length ≤ 32) (hk : ∀ r ∈ allT s, r.kids.length ≤ 32) : Calls Try.prog 41 #[.agg c.row] w (NewAsk w (fun k => k ∈ rawT s ∧ k ≠ noN)) := by
  have hb : Below w.heap.size w (w.alloc (.cells c.row 30)) := (Below.refl _ _).alloc (Nat.le_refl _) _
  have hv := VarR.new w 30 c.row
  obtain ⟨W0, hW⟩ : ∃ W0, w.alloc (.cells c.row 30) = W0 := ⟨_, rfl⟩
  rw [hW] at hb hv
  have HNM := hd (fun (W : World) (hb : Below w.heap.size w W) => names_any (h.later hb) hl hk)
  have HB := hd hb
  have V1 := hd hv
  have HW := hd hW
  clear h hl hk hb hv hW
  go_enter Try.func41, Try.ntmps41
  go_upto_region 1 with fail
  rw [HW.out]
  go_upto_region 2 with (first
    | (go_at_call 64; refine (leaf_c _).mono ?_; rintro e9 w1 ⟨rfl, b9⟩; have V1 := hd (V1.out.keep b9); have HB := hd (step_b HB.out b9); clear b9)
    | (go_at_call 65; refine (elem_none _).mono ?_; rintro e9 w2 ⟨rfl, b9⟩; have V1 := hd (V1.out.keep b9); have HB := hd (step_b HB.out b9); clear b9)
    | ((with_reducible refine gd_build15 (ty := 39) ?_); refine wpList_build_n2 (c := leafC) (d := voidC) _ _ rfl rfl rfl rfl ?_))
  obtain ⟨g, hg⟩ : ∃ g, w2.heap.size = g := ⟨_, rfl⟩
  obtain ⟨w3, hw3⟩ : ∃ w3, w2.alloc (.cells (cellsN [leafC, voidC]).toArray 41) = w3 := ⟨_, rfl⟩
  have hb3 : Below w2.heap.size w2 w3 := hw3 ▸ (Below.refl _ _).alloc (Nat.le_refl _) _
  have hgl : g < w3.heap.size := by rw [← hw3, ← hg]; simp
  have HGB := hd (show w.heap.size ≤ g by rw [← hg]; exact HB.out.size)
  have HO := hd (show w3.ownsRow w.heap.size 41 4 (.slice (some ⟨g, 0, none⟩) 2 2) 2 (cellsN [leafC, voidC]) by
    rw [← hw3, ← hg]
    refine ⟨by rw [cellsN_len]; rfl, .inr ⟨w2.heap.size, 2, (cellsN [leafC, voidC]).toArray, rfl, HB.out.size, heap_alloc_new _ _, Nat.le_refl _, by unfold maxLen; omega, by simp [cellsN_len], ?_⟩⟩
    rw [List.take_of_length_le (by simp [cellsN_len])])
  rw [hw3, hg]
  have V1 := hd (V1.out.keep hb3)
  have HB := hd (step_b HB.out hb3)
  have HG := hd hgl
  have HQ := hd (show QsAt (some g) w3 [leafC, voidC] [none, some noN] from ⟨rfl, fun k x q h1 h2 => by
    match k, h1, h2 with
    | 0, h1, h2 => simp at h1 h2; subst h1 h2; exact ⟨leafC_at w3, fun b o e => by cases e⟩
    | 1, h1, h2 => simp at h1 h2; subst h1 h2; exact ⟨voidC_at w3, fun b o e => by cases e⟩
    | k + 2, h1, _ => simp at h1⟩)
  clear hw3 hg hb3 hgl
  go_wp2_with (first
    | ((with_reducible refine gd_load (ty := 30) (x := .tmp 1) ?_); refine wpList_load_row rowT_sch V1.out rfl _ rfl rfl rfl ?_)
    | (go_at_call 66; refine (HNM.out _ HB.out).mono ?_; rintro e9 w4 ⟨NA, nn, nc, ts, rfl, hnn, hn3, hv4, hS4, hlo4, b9⟩; have HV4 := hd hv4; have HS4 := hd hS4; have HLO := hd hlo4; have HNN := hd hnn; have HO := hd (own_later HO.out b9); have HQ := hd (HQ.out.later b9); have HB := hd (step_b HB.out b9); clear hv4 hS4 hlo4 hnn b9))
  go_loopw [3, 12] (fun v i wr => ∃ (j : Nat) (A : Option Addr) (c : Nat) (cs : List NC) (qs : List (Option Nm)), j ≤ nn ∧ i = .int .i64 j ∧ v = .slice A (j + 2) c ∧ Hid (wr.ownsRow w.heap.size 41 4 (.slice A (j + 2) c) (j + 2) (cellsN cs)) ∧ Hid (cs.length = j + 2) ∧ Hid (QsAt (Value.slice A (j + 2) c).ownBlock wr cs qs) ∧ Hid (qs = [none, some noN] ++ (ts.take j).map some) ∧ Hid (Below w.heap.size w wr) ∧
      Hid (∀ k, k < nn → ∃ b o, NA = some ⟨b, o, none⟩ ∧ b < wr.heap.size ∧ (Value.slice A (j + 2) c).ownBlock ≠ some b ∧ wr.cell? ⟨b, o + k, none⟩ = some (.string (nmAt ts k)))) (fun _ i _ => nn - (intOf i).toNat)
  case atStart => exact ⟨0, some ⟨g, 0, none⟩, 2, [leafC, voidC], [none, some noN], Nat.zero_le _, rfl, rfl, HO, hd rfl, HQ, hd (by simp), HB, hd (fun k hk => by
    obtain ⟨b, o, e, h1, h2⟩ := vl_strs HV4.out (k := k) (by rw [HNN.out]; exact hk)
    refine ⟨b, o, e, h1, fun e2 => ?_, h2⟩
    have h3 := HLO.out b o e
    have h4 := HG.out
    simp [Value.ownBlock] at e2
    omega)⟩
  case round =>
    obtain ⟨j, A, c, cs, qs, hj1, rfl, rfl, HO, HCL, HQ, HE, HB, HNA⟩ := hrel
    by_cases hlt : j < nn
    · obtain ⟨nb, no, hNA, hnb, hne, hnc⟩ := HNA.out j hlt
      obtain rfl : NA = some ⟨nb, no, none⟩ := hNA
      obtain ⟨k, hk⟩ : ∃ k, nmAt ts j = k := ⟨_, rfl⟩
      rw [hk] at hnc
      have hjt : j < ts.length := by rw [HNN.out]; exact hlt
      have HKN := hd (show k ≠ noN from ((HS4.out k).1 (by rw [← hk, nmAt_mem hjt]; exact List.getElem_mem _)).2)
      have HK := hd hk
      have HNB := hd hnb
      clear hk hne hnb
      go_upto_region 5 with fail
      clear hnc
      go_wp2_with (first
        | (go_at_call 65; refine (elem_some HKN.out _).mono ?_; rintro e9 w5 ⟨g5, rfl, hp5, hg5, b9⟩; have HP5 := hd hp5; have HG5 := hd hg5; have HO5 := hd (own_later HO.out b9); have HQ5 := hd (HQ.out.later b9); have HB5 := hd (step_b HB.out b9); have HS5 := hd b9; clear hp5 hg5 b9)
        | ((with_reducible refine gd_build15 (ty := 39) ?_); refine wpList_build_n1 (c := elC g5) _ rfl rfl rfl ?_)
        | (at_builtin; refine wpList_append_GX nodeG _ rfl (.tmp 16) (.tmp 19) rfl w.heap.size _ (j + 2) (cellsN cs) rfl (HO5.out.alloc _) _ 1 1 _ (cellsN [elC g5]) rfl (by rw [cellsN_len]; rfl) (vl_new w5 _ _) (cellsN_all _) (by unfold maxLen; omega) (by omega) (by have := HB5.out.size; simp; omega) ?_; intro A6 c6 w6 ho6 hg6 hat6))
      have hb6 : Below w5.heap.size w5 (w5.alloc (.cells (cellsN [elC g5]).toArray 41)) := (Below.refl _ _).alloc (Nat.le_refl _) _
      have hownlt : ∀ b, (Value.slice A (j + 2) c).ownBlock = some b → b < wr.heap.size := fun b e => (HO.out.lt b e).2
      have hq6 : QAt (w5.alloc (.cells (cellsN [elC g5]).toArray 41)) (elC g5) (some k) ∧ ∀ b o, (elC g5).P = some ⟨b, o, none⟩ → b < (w5.alloc (.cells (cellsN [elC g5]).toArray 41)).heap.size ∧ (Value.slice A (j + 2) c).ownBlock ≠ some b := by
        refine ⟨(elC_at HP5.out).later hb6, fun b o e => ?_⟩
        injection e with e
        injection e with e1 e2
        subst e1
        obtain ⟨pb, po, ep, hpl, _⟩ := HP5.out (fun e => by cases e)
        injection ep with ep
        injection ep with ep
        subst ep
        refine ⟨Nat.lt_of_lt_of_le hpl hb6.size, fun e => ?_⟩
        have h1 := hownlt _ e
        have h2 := HG5.out
        omega
      have HQ6 := hd (((HQ5.out.later hb6).more hq6).grown hg6 hat6)
      have HB6 := hd (agrown_below (step_b HB5.out hb6) hg6 (fun b e => (HO.out.lt b e).1))
      have HNA6 := hd (show ∀ k, k < nn → ∃ b o, some (⟨nb, no, none⟩ : Addr) = some ⟨b, o, none⟩ ∧ b < w6.heap.size ∧ (Value.slice A6 (j + 2 + 1) c6).ownBlock ≠ some b ∧ w6.cell? ⟨b, o + k, none⟩ = some (.string (nmAt ts k)) from fun k hk => by
        obtain ⟨b, o, e, h1, h2, h3⟩ := HNA.out k hk
        have hlt5 := Nat.lt_of_lt_of_le h1 (HS5.out.trans (hb6.mono HS5.out.size)).size
        have hc := clear_grown hg6 hat6 hlt5 h2
        exact ⟨b, o, e, hc.2.1, hc.2.2, (World.cell?_of_block hc.1).trans (((HS5.out.trans (hb6.mono HS5.out.size)).cell (p := ⟨b, o + k, none⟩) h1).trans h3)⟩)
      have HO6 := hd ho6
      have HE6 := hd (show qs ++ [some k] = [none, some noN] ++ (ts.take (j + 1)).map some by
        rw [HE.out, List.take_add_one, List.getElem?_eq_getElem hjt, ← HK.out, nmAt_mem hjt, List.map_append, ← List.append_assoc]
        rfl)
      have HCL6 := hd (show (cs ++ [elC g5]).length = j + 1 + 2 by rw [List.length_append, HCL.out]; rfl)
      clear hb6 hownlt hq6 ho6 hg6 hat6
      go_roundw
      case rel => exact ⟨j + 1, A6, c6, cs ++ [elC g5], qs ++ [some k], by omega, by go_num, rfl, hd (by rw [cellsN_app]; exact HO6.out), HCL6, HQ6, HE6, HB6, HNA6⟩
      case measure => simp [intOf]; omega
    · obtain rfl : j = nn := by omega
      have hlen : qs.length = j + 2 := by rw [← HQ.out.1, HCL.out]
      have HX := hd (show ∀ q, q ∈ qs ↔ q = none ∨ q = some noN ∨ ∃ k, (k ∈ rawT s ∧ k ≠ noN) ∧ q = some k from fun q => by
        rw [HE.out, List.take_of_length_le (by rw [HNN.out]; exact Nat.le_refl _)]
        simp only [List.mem_append, List.mem_cons, List.not_mem_nil, or_false, List.mem_map, or_assoc]
        constructor
        · rintro (h | h | ⟨k, hk, rfl⟩)
          · exact .inl h
          · exact .inr (.inl h)
          · exact .inr (.inr ⟨k, (HS4.out k).1 hk, rfl⟩)
        · rintro (h | h | ⟨k, hk, rfl⟩)
          · exact .inl h
          · exact .inr (.inl h)
          · exact .inr (.inr ⟨k, (HS4.out k).2 hk, rfl⟩))
      go_wp2_with fail
      go_ret
      exact ⟨A, j + 2, c, cs, qs, rfl, HCL.out, hlen, by omega, (arow_vl HO.out).2, fun k x q h1 h2 => (HQ.out.2 k x q h1 h2).1, HX.out, HB.out⟩

end Go.Proofs.Ytegaapeaeffgoaa

namespace Go.Proofs.Ytegaapeaeffgoaa
open Go.RowKit

section
variable {P : Program} {ops : Array Oper} {Q : Exit → Act → World → Prop} {S : World → Prop} {z : Nat → Bool}
set_option maxRecDepth 4000 in
theorem Y_skip {i : Nat} {oi : Oper} {n : Nat} {listed : Array Bool} {a : Act} {w : World} (hi : ops[i]? = some oi) (hs : Region.noSelect ops = true) (hz : waitsY ops z i = true) (hf : Region.free .any ops listed i = true) (hr : (Region.ready .any ops listed).contains i = true)
    (hQ : ∀ c a w, Q (.panic c) (a.put oi.dst undef) w → Q (.panic c) a w) (hw : Region.wanted oi (yielded ops a.tmps) = false) (hS : S w)
    (h : wpAnyY P ops Q S z n (listed.setIfInBounds i true) (a.put oi.dst undef) w) : wpAnyY P ops Q S z (n + 1) listed a w :=
  Y_first hi hs hz hQ n listed a w (Region.free_spec hi hf) (by simpa using hr) (.inr ⟨hw, rfl⟩) hS h
end
set_option maxRecDepth 4000 in
theorem wrap_name {_s : SchT} {r : RuleT} (h : ruleOk r = true) {q : Option Nm} (ha : (actQ r q).act = 4) : (actQ r q).ty ≠ noN := by
  have hf : formT (actQ r q) = true := by
    cases q with
    | none => exact (rule_forms h).1
    | some k => exact act_form h k
  exact ((form_ok hf).2).2 ha
set_option maxRecDepth 100000 in
set_option maxHeartbeats 4000000 in
theorem keepsfill_any {w : World} {c : RuC} {r : RuleT} (h : RuAt w c r) (hl : r.kids.length ≤ 10000) (hf2 : r.fill = 2 → r.fty ≠ noN) {E : Bool} (hE : filledT r = E) : Calls Try.prog 43 #[.agg c.row] w (Still (.bool E) w) := by
  have hb : Below w.heap.size w (w.alloc (.cells c.row 27)) := (Below.refl _ _).alloc (Nat.le_refl _) _
  have hv := VarR.new w 27 c.row
  obtain ⟨W0, hW⟩ : ∃ W0, w.alloc (.cells c.row 27) = W0 := ⟨_, rfl⟩
  rw [hW] at hb hv
  have hfi : r.fill = c.fill := h.hfill
  have hft : r.fty = c.fty := h.hfty
  have h0 := h.later hb
  have HC := fun (W : World) (hb : Below W0.heap.size W0 W) (d : NC) (q : Option Nm) (hq : QAt W d q) => hd (keeps_any (h0.later hb) hl hq rfl)
  rw [filledT, hfi, hft] at hE
  have HW := hd hW
  have HB := hd hb
  have V1 := hd hv
  by_cases f1 : c.fill = 1
  · have e1 : (c.fill == 1) = true := by simpa using f1
    rw [if_pos f1] at hE
    have HE := hd (show keepsQ r none = E from hE)
    have l6 : W0.cell? ⟨w.heap.size, 6, none⟩ = some (.int .i64 1) := by rw [← f1]; exact hv.cell 6 _ rfl
    have HV := hd (later_row hv)
    clear h hl hf2 hE hW hb hv hfi hft h0 e1 f1
    go_enter Try.func43, Try.ntmps43
    go_upto_region 1 with fail
    rw [HW.out]
    go_upto_region 3 with fail
    refine wp_region_later W0.heap.size (by kernel_rfl) (by kernel_rfl) ?_
    repeat (first
      | (go_big_quiet_want; (with_reducible refine gq_load (ty := 27) (x := .tmp 1) ?_); refine quiet_load rowT_rule (r := c.row) HV.out rfl _ rfl rfl ?_; go_big_quiet_on; simp only [Act.put, List.setIfInBounds_toArray, List.set_cons_succ, List.set_cons_zero])
      | go_big_quiet_step (first
          | (go_at_call 64; exact later_in (Nat.le_refl _) (leaf_c _))
          | (go_at_call 67; exact later_in (Nat.le_refl _) (HC _ (Subtype.property _) leafC none (leafC_at _)).out)))
    refine wpQuiet_nil ?_
    intro w9 hu
    obtain ⟨⟨w10, hw10⟩, hw9⟩ := hu
    have e9 : w10 = w9 := hw9.symm
    subst e9
    have HB := hd (step_b HB.out hw10)
    clear hw9 hw10 HV l6
    go_wp2_with fail
    go_ret
    exact ⟨ret_bool HE.out, HB.out⟩
  · have e1 : (c.fill == 1) = false := by simpa using f1
    rw [if_neg f1] at hE
    by_cases f2 : c.fill = 2
    · rw [if_pos f2] at hE
      have HE := hd (show keepsQ r (some c.fty) = E from hE)
      have l6 : W0.cell? ⟨w.heap.size, 6, none⟩ = some (.int .i64 2) := by rw [← f2]; exact hv.cell 6 _ rfl
      have HNE := hd (show c.fty ≠ noN from hft ▸ hf2 (hfi.trans f2))
      have HSS := hd (show Below W0.heap.size W0 W0.drew ∧ VarR 27 W0.drew w.heap.size c.row from ⟨(Below.refl _ _).drew, hv⟩)
      clear h hl hf2 hE hW hb hv hfi hft h0 e1 f1 f2
      go_enter Try.func43, Try.ntmps43
      go_upto_region 1 with fail
      rw [HW.out]
      go_upto_region 5 with fail
      clear l6
      refine Y_start (S := fun W' => Below W0.heap.size W0 W' ∧ VarR 27 W' w.heap.size c.row) (z := fun _ => false) (by kernel_rfl) ?_
      refine Y_take (i := 0) (n := 5) (.agg c.row) rfl (by kernel_rfl) (by kernel_rfl) (by kernel_rfl) (by kernel_rfl) (fun _ _ _ h => h) (by rfl) (fun W9 hW9 => ?_) HSS.out ?_
      · exact exec_load_at rowT_rule (r := c.row) (hW9.2.range 0 _ (fun j v h => by simpa using h)) rfl _ rfl rfl
      simp only [Act.put, List.setIfInBounds_toArray, List.set_cons_succ, List.set_cons_zero, List.getElem_toArray, List.getElem_cons_zero]
      refine Y_take (i := 1) (n := 4) (.pointer (some ⟨w.heap.size, 7, none⟩)) rfl (by kernel_rfl) (by kernel_rfl) (by kernel_rfl) (by kernel_rfl) (fun _ _ _ h => h) (by rfl) (fun W9 hW9 => ?_) HSS.out ?_
      · go_simp
      simp only [Act.put, List.setIfInBounds_toArray, List.set_cons_succ, List.set_cons_zero, List.getElem_toArray, List.getElem_cons_succ, List.getElem_cons_zero]
      refine Y_take (i := 2) (n := 3) (.string c.fty) rfl (by kernel_rfl) (by kernel_rfl) (by kernel_rfl) (by kernel_rfl) (fun _ _ _ h => h) (by rfl) (fun W9 hW9 => ?_) HSS.out ?_
      · have l7 : W9.cell? ⟨w.heap.size, 7, none⟩ = some (.string c.fty) := hW9.2.cell 7 _ rfl
        clear hW9
        go_simp
      simp only [Act.put, List.setIfInBounds_toArray, List.set_cons_succ, List.set_cons_zero, List.getElem_toArray, List.getElem_cons_succ, List.getElem_cons_zero]
      refine Y_one (i := 3) (n := 2) (by kernel_rfl) rfl (fun K hK => ?_)
      rw [if_pos (by rfl)]
      go_simp
      go_at_call 65
      refine (elem_some HNE.out _).mono ?_
      rintro e9 w5 ⟨g5, rfl, hp5, hg5, b9⟩
      have HP5 := hd hp5
      have HSS := hd (show Below W0.heap.size W0 w5 ∧ VarR 27 w5 w.heap.size c.row from ⟨step_b HSS.out.1 b9, HSS.out.2.keep b9⟩)
      clear hp5 hg5 b9
      refine hK _ _ (fun _ => HSS.out) ?_
      clear hK K
      refine Y_one (i := 4) (n := 1) (by kernel_rfl) rfl (fun K hK => ?_)
      rw [if_pos (by rfl)]
      go_simp
      go_at_call 67
      refine (HC _ HSS.out.1 (elC g5) (some c.fty) (elC_at HP5.out)).out.mono ?_
      rintro e9 w6 ⟨rfl, b9⟩
      have HSS := hd (show Below W0.heap.size W0 w6 ∧ VarR 27 w6 w.heap.size c.row from ⟨step_b HSS.out.1 b9, HSS.out.2.keep b9⟩)
      clear b9
      refine hK _ _ (fun _ => HSS.out) ?_
      clear hK K
      refine Y_one (i := 5) (n := 0) (by kernel_rfl) rfl (fun K hK => ?_)
      rw [if_pos (by rfl)]
      go_simp
      refine hK _ _ (fun _ => HSS.out) (Y_done (by kernel_rfl) ?_)
      clear hK K
      go_wp2_with fail
      go_ret
      exact ⟨ret_bool HE.out, step_b HB.out HSS.out.1⟩
    · rw [if_neg f2] at hE
      have e2 : (c.fill == 2) = false := by simpa using f2
      have HE := hd hE
      have l6 : W0.cell? ⟨w.heap.size, 6, none⟩ = some (.int .i64 c.fill) := hv.cell 6 _ rfl
      clear h hl hf2 hE hW hb hv hfi hft h0
      go_enter Try.func43, Try.ntmps43
      go_upto_region 1 with fail
      rw [HW.out]
      go_wp2_with fail
      go_ret
      exact ⟨ret_bool HE.out, HB.out⟩

/-- Whether what a rule wraps of a node stays. -/
def wrapQ (s : SchT) (r : RuleT) (q : Option Nm) : Bool := (actQ r q).act != 4 || (keepsT r (actQ r q).ty && keepsQ (ruleT s (actQ r q).ty) q)
def InK (w : World) (gs gr gn ga : Nat) (cs cr cn ca : Array Value) (W : World) : Prop := Below w.heap.size w W ∧ VarR 30 W gs cs ∧ VarR 27 W gr cr ∧ VarR 41 W gn cn ∧ VarR 24 W ga ca
set_option maxRecDepth 4000 in
theorem InK.keep {w : World} {gs gr gn ga : Nat} {cs cr cn ca : Array Value} {W W' : World} (h : InK w gs gr gn ga cs cr cn ca W) (hb : Below W.heap.size W W') : InK w gs gr gn ga cs cr cn ca W' := ⟨step_b h.1 hb, h.2.1.keep hb, h.2.2.1.keep hb, h.2.2.2.1.keep hb, h.2.2.2.2.keep hb⟩
set_option maxRecDepth 100000 in
set_option maxHeartbeats 8000000 in
theorem keepswrap_any {w : World} {c : ScC} {s : SchT} {d : RuC} {r : RuleT} {n : NC} {q : Option Nm} (h : ScAt w c s) (hr : RuAt w d r) (hq : QAt w n q) (hl : s.rules.length ≤ 1000) (hk : ∀ x ∈ allT s, x.kids.length ≤ 1000) (hrk : r.kids.length ≤ 1000) (hnm : (actQ r q).act = 4 → (actQ r q).ty ≠ noN) {E : Bool} (hE : wrapQ s r q = E) : Calls Try.prog 46 #[.agg c.row, .agg d.row, .agg n.row] w (Still (.bool E) w) := by
  obtain ⟨W0, hW, hb, v1, v2, v3⟩ := arows3 w 30 27 41 c.row d.row n.row
  obtain ⟨a, ha⟩ : ∃ a, actQ r q = a := ⟨_, rfl⟩
  have HA := hd (act_any (hr.later hb) (by omega) (hq.later hb) ha)
  have HW := hd hW
  have HB := hd hb
  have V1 := hd v1
  have V2 := hd v2
  have V3 := hd v3
  rw [wrapQ, ha] at hE
  rw [ha] at hnm
  have HKP := fun (W : World) (hb : Below w.heap.size w W) (x : NC) (k : Option Nm) (hx : QAt W x k) => hd (keeps_any (hr.later hb) (by omega) hx rfl)
  have HRU := fun (W : World) (hb : Below w.heap.size w W) => hd (ruleof_any (k := a.ty) h hb (by omega) rfl)
  have HKQ := fun (W : World) (x : RuC) (hx : RuAt w x (ruleT s a.ty)) (hb : Below w.heap.size w W) => hd (keeps_any (hx.later hb) (by have := hk _ (ruleT_mem s a.ty); omega) (hq.later hb) rfl)
  clear h hr hq hl hk hrk hW hb v1 v2 v3 ha
  obtain ⟨an, aty⟩ := a
  go_enter Try.func46, Try.ntmps46
  go_upto_region 1 with fail
  rw [HW.out]
  go_upto_region 2 with (first
    | ((with_reducible refine gd_load (ty := 27) (x := .tmp 4) ?_); refine wpList_load_row rowT_rule V2.out rfl _ rfl rfl rfl ?_)
    | ((with_reducible refine gd_load (ty := 41) (x := .tmp 5) ?_); refine wpList_load_row rowT_node V3.out rfl _ rfl rfl rfl ?_)
    | (go_at_call 15; refine HA.out.mono ?_; rintro e9 w1 ⟨rfl, b9⟩; have V1 := hd (V1.out.keep b9); have V2 := hd (V2.out.keep b9); have V3 := hd (V3.out.keep b9); have HB := hd (step_b HB.out b9); clear b9)
    | ((with_reducible refine gd_store (ty := 24) (x := .tmp 7) ?_); refine wpList_store_new rowT_act (r := #[.int .i64 an, .string aty]) rfl rfl (act_one _ _) _ _ rfl rfl rfl rfl rfl rfl ?_))
  obtain ⟨g, hg⟩ : ∃ g, w1.heap.size = g := ⟨_, rfl⟩
  obtain ⟨W2, hW2⟩ : ∃ W2, w1.alloc (.cells #[.int .i64 an, .string aty] 24) = W2 := ⟨_, rfl⟩
  have hb2 : Below w1.heap.size w1 W2 := hW2 ▸ (Below.refl _ _).alloc (Nat.le_refl _) _
  have hv7 : VarR 24 W2 g #[.int .i64 an, .string aty] := by rw [← hW2, ← hg]; exact VarR.new w1 _ _
  have HIK := hd (show InK w w.heap.size (w.heap.size + 1) (w.heap.size + 1 + 1) g c.row d.row n.row #[.int .i64 an, .string aty] W2 from ⟨step_b HB.out hb2, V1.out.keep hb2, V2.out.keep hb2, V3.out.keep hb2, hv7⟩)
  rw [hW2, hg]
  clear hg hW2 hb2 HB V1 V2 V3 HA HW
  by_cases h4 : an = 4
  · subst h4
    have HNE := hd (hnm rfl)
    have HE := hd (show (keepsT r aty && keepsQ (ruleT s aty) q) = E by rw [← hE]; rfl)
    clear hE hnm hv7
    have HSS := hd (show InK w w.heap.size (w.heap.size + 1) (w.heap.size + 1 + 1) g c.row d.row n.row #[.int .i64 4, .string aty] W2.drew from HIK.out.keep (Below.refl _ _).drew)
    refine Y_start (S := InK w w.heap.size (w.heap.size + 1) (w.heap.size + 1 + 1) g c.row d.row n.row #[.int .i64 4, .string aty]) (z := fun _ => false) (by kernel_rfl) ?_
    refine Y_take (i := 0) (n := 18) (.pointer (some ⟨g, 0, none⟩)) rfl (by kernel_rfl) (by kernel_rfl) (by kernel_rfl) (by kernel_rfl) (fun _ _ _ h => h) (by rfl) (fun W9 hW9 => ?_) HSS.out ?_
    · go_simp
    simp only [Act.put, List.setIfInBounds_toArray, List.set_cons_succ, List.set_cons_zero, List.getElem_toArray, List.getElem_cons_zero]
    refine Y_take (i := 1) (n := 17) (.int .i64 4) rfl (by kernel_rfl) (by kernel_rfl) (by kernel_rfl) (by kernel_rfl) (fun _ _ _ h => h) (by rfl) (fun W9 hW9 => ?_) HSS.out ?_
    · have l0 : W9.cell? ⟨g, 0, none⟩ = some (.int .i64 4) := hW9.2.2.2.2.cell 0 _ rfl
      clear hW9
      go_simp
    simp only [Act.put, List.setIfInBounds_toArray, List.set_cons_succ, List.set_cons_zero, List.getElem_toArray, List.getElem_cons_succ, List.getElem_cons_zero]
    refine Y_take (i := 2) (n := 16) (.bool false) rfl (by kernel_rfl) (by kernel_rfl) (by kernel_rfl) (by kernel_rfl) (fun _ _ _ h => h) (by rfl) (fun W9 hW9 => ?_) HSS.out ?_
    · go_simp
    simp only [Act.put, List.setIfInBounds_toArray, List.set_cons_succ, List.set_cons_zero, List.getElem_toArray, List.getElem_cons_succ, List.getElem_cons_zero]
    refine Y_take (i := 3) (n := 15) (.bool false) rfl (by kernel_rfl) (by kernel_rfl) (by kernel_rfl) (by kernel_rfl) (fun _ _ _ h => h) (by rfl) (fun W9 hW9 => ?_) HSS.out ?_
    · go_simp
    simp only [Act.put, List.setIfInBounds_toArray, List.set_cons_succ, List.set_cons_zero, List.getElem_toArray, List.getElem_cons_succ, List.getElem_cons_zero]
    refine Y_take (i := 4) (n := 14) (.agg d.row) rfl (by kernel_rfl) (by kernel_rfl) (by kernel_rfl) (by kernel_rfl) (fun _ _ _ h => h) (by rfl) (fun W9 hW9 => ?_) HSS.out ?_
    · exact exec_load_at rowT_rule (r := d.row) (hW9.2.2.1.range 0 _ (fun j v h => by simpa using h)) rfl _ rfl rfl
    simp only [Act.put, List.setIfInBounds_toArray, List.set_cons_succ, List.set_cons_zero, List.getElem_toArray, List.getElem_cons_succ, List.getElem_cons_zero]
    refine Y_take (i := 5) (n := 13) (.pointer (some ⟨g, 1, none⟩)) rfl (by kernel_rfl) (by kernel_rfl) (by kernel_rfl) (by kernel_rfl) (fun _ _ _ h => h) (by rfl) (fun W9 hW9 => ?_) HSS.out ?_
    · go_simp
    simp only [Act.put, List.setIfInBounds_toArray, List.set_cons_succ, List.set_cons_zero, List.getElem_toArray, List.getElem_cons_succ, List.getElem_cons_zero]
    refine Y_take (i := 6) (n := 12) (.string aty) rfl (by kernel_rfl) (by kernel_rfl) (by kernel_rfl) (by kernel_rfl) (fun _ _ _ h => h) (by rfl) (fun W9 hW9 => ?_) HSS.out ?_
    · have l0 : W9.cell? ⟨g, 1, none⟩ = some (.string aty) := hW9.2.2.2.2.cell 1 _ rfl
      clear hW9
      go_simp
    simp only [Act.put, List.setIfInBounds_toArray, List.set_cons_succ, List.set_cons_zero, List.getElem_toArray, List.getElem_cons_succ, List.getElem_cons_zero]
    refine Y_one (i := 7) (n := 11) (by kernel_rfl) rfl (fun K hK => ?_)
    rw [if_pos (by rfl)]
    go_simp
    go_at_call 65
    refine (elem_some HNE.out _).mono ?_
    rintro e9 w5 ⟨g5, rfl, hp5, hg5, b9⟩
    have HP5 := hd hp5
    have HSS := hd (HSS.out.keep b9)
    clear hp5 hg5 b9
    refine hK _ _ (fun _ => HSS.out) ?_
    clear hK K
    cases hkp : keepsT r aty with
    | false =>
      have HK1 := HKP _ HSS.out.1 (elC g5) (some aty) (elC_at HP5.out)
      rw [show keepsQ r (some aty) = false from hkp] at HK1
      have HX := hd (show false = E by rw [← HE.out, hkp]; rfl)
      clear hkp
      refine Y_one (i := 8) (n := 10) (by kernel_rfl) rfl (fun K hK => ?_)
      rw [if_pos (by rfl)]
      go_simp
      go_at_call 67
      refine HK1.out.mono ?_
      rintro e9 w6 ⟨rfl, b9⟩
      have HSS := hd (HSS.out.keep b9)
      clear b9
      refine hK _ _ (fun _ => HSS.out) ?_
      clear hK K
      refine Y_take (i := 9) (n := 9) (.bool false) rfl (by kernel_rfl) (by kernel_rfl) (by kernel_rfl) (by kernel_rfl) (fun _ _ _ h => h) (by rfl) (fun W9 hW9 => ?_) HSS.out ?_
      · go_simp
      simp only [Act.put, List.setIfInBounds_toArray, List.set_cons_succ, List.set_cons_zero, List.getElem_toArray, List.getElem_cons_succ, List.getElem_cons_zero]
      refine Y_skip (i := 10) (n := 8) rfl (by kernel_rfl) (by kernel_rfl) (by kernel_rfl) (by kernel_rfl) (fun _ _ _ h => h) (by rfl) HSS.out ?_
      simp only [Act.put, List.setIfInBounds_toArray, List.set_cons_succ, List.set_cons_zero, List.getElem_toArray, List.getElem_cons_succ, List.getElem_cons_zero]
      refine Y_skip (i := 11) (n := 7) rfl (by kernel_rfl) (by kernel_rfl) (by kernel_rfl) (by kernel_rfl) (fun _ _ _ h => h) (by rfl) HSS.out ?_
      simp only [Act.put, List.setIfInBounds_toArray, List.set_cons_succ, List.set_cons_zero, List.getElem_toArray, List.getElem_cons_succ, List.getElem_cons_zero]
      refine Y_skip (i := 12) (n := 6) rfl (by kernel_rfl) (by kernel_rfl) (by kernel_rfl) (by kernel_rfl) (fun _ _ _ h => h) (by rfl) HSS.out ?_
      simp only [Act.put, List.setIfInBounds_toArray, List.set_cons_succ, List.set_cons_zero, List.getElem_toArray, List.getElem_cons_succ, List.getElem_cons_zero]
      refine Y_skip (i := 13) (n := 5) rfl (by kernel_rfl) (by kernel_rfl) (by kernel_rfl) (by kernel_rfl) (fun _ _ _ h => h) (by rfl) HSS.out ?_
      simp only [Act.put, List.setIfInBounds_toArray, List.set_cons_succ, List.set_cons_zero, List.getElem_toArray, List.getElem_cons_succ, List.getElem_cons_zero]
      refine Y_skip (i := 14) (n := 4) rfl (by kernel_rfl) (by kernel_rfl) (by kernel_rfl) (by kernel_rfl) (fun _ _ _ h => h) (by rfl) HSS.out ?_
      simp only [Act.put, List.setIfInBounds_toArray, List.set_cons_succ, List.set_cons_zero, List.getElem_toArray, List.getElem_cons_succ, List.getElem_cons_zero]
      refine Y_skip (i := 15) (n := 3) rfl (by kernel_rfl) (by kernel_rfl) (by kernel_rfl) (by kernel_rfl) (fun _ _ _ h => h) (by rfl) HSS.out ?_
      simp only [Act.put, List.setIfInBounds_toArray, List.set_cons_succ, List.set_cons_zero, List.getElem_toArray, List.getElem_cons_succ, List.getElem_cons_zero]
      refine Y_take (i := 16) (n := 2) (.bool false) rfl (by kernel_rfl) (by kernel_rfl) (by kernel_rfl) (by kernel_rfl) (fun _ _ _ h => h) (by rfl) (fun W9 hW9 => ?_) HSS.out ?_
      · go_simp
      simp only [Act.put, List.setIfInBounds_toArray, List.set_cons_succ, List.set_cons_zero, List.getElem_toArray, List.getElem_cons_succ, List.getElem_cons_zero]
      refine Y_take (i := 17) (n := 1) (.bool false) rfl (by kernel_rfl) (by kernel_rfl) (by kernel_rfl) (by kernel_rfl) (fun _ _ _ h => h) (by rfl) (fun W9 hW9 => ?_) HSS.out ?_
      · go_simp
      simp only [Act.put, List.setIfInBounds_toArray, List.set_cons_succ, List.set_cons_zero, List.getElem_toArray, List.getElem_cons_succ, List.getElem_cons_zero]
      refine Y_one (i := 18) (n := 0) (by kernel_rfl) rfl (fun K hK => ?_)
      rw [if_pos (by rfl)]
      go_simp
      refine hK _ _ (fun _ => HSS.out) (Y_done (by kernel_rfl) ?_)
      clear hK K
      go_wp2_with fail
      go_ret
      exact ⟨ret_bool HX.out, HSS.out.1⟩
    | true =>
      have HK1 := HKP _ HSS.out.1 (elC g5) (some aty) (elC_at HP5.out)
      rw [show keepsQ r (some aty) = true from hkp] at HK1
      have HX := hd (show keepsQ (ruleT s aty) q = E by rw [← HE.out, hkp]; rfl)
      clear hkp
      refine Y_one (i := 8) (n := 10) (by kernel_rfl) rfl (fun K hK => ?_)
      rw [if_pos (by rfl)]
      go_simp
      go_at_call 67
      refine HK1.out.mono ?_
      rintro e9 w6 ⟨rfl, b9⟩
      have HSS := hd (HSS.out.keep b9)
      clear b9
      refine hK _ _ (fun _ => HSS.out) ?_
      clear hK K
      refine Y_take (i := 9) (n := 9) (.bool true) rfl (by kernel_rfl) (by kernel_rfl) (by kernel_rfl) (by kernel_rfl) (fun _ _ _ h => h) (by rfl) (fun W9 hW9 => ?_) HSS.out ?_
      · go_simp
      simp only [Act.put, List.setIfInBounds_toArray, List.set_cons_succ, List.set_cons_zero, List.getElem_toArray, List.getElem_cons_succ, List.getElem_cons_zero]
      refine Y_take (i := 10) (n := 8) (.agg c.row) rfl (by kernel_rfl) (by kernel_rfl) (by kernel_rfl) (by kernel_rfl) (fun _ _ _ h => h) (by rfl) (fun W9 hW9 => ?_) HSS.out ?_
      · exact exec_load_at rowT_sch (r := c.row) (hW9.2.1.range 0 _ (fun j v h => by simpa using h)) rfl _ rfl rfl
      simp only [Act.put, List.setIfInBounds_toArray, List.set_cons_succ, List.set_cons_zero, List.getElem_toArray, List.getElem_cons_succ, List.getElem_cons_zero]
      refine Y_take (i := 11) (n := 7) (.pointer (some ⟨g, 1, none⟩)) rfl (by kernel_rfl) (by kernel_rfl) (by kernel_rfl) (by kernel_rfl) (fun _ _ _ h => h) (by rfl) (fun W9 hW9 => ?_) HSS.out ?_
      · go_simp
      simp only [Act.put, List.setIfInBounds_toArray, List.set_cons_succ, List.set_cons_zero, List.getElem_toArray, List.getElem_cons_succ, List.getElem_cons_zero]
      refine Y_take (i := 12) (n := 6) (.string aty) rfl (by kernel_rfl) (by kernel_rfl) (by kernel_rfl) (by kernel_rfl) (fun _ _ _ h => h) (by rfl) (fun W9 hW9 => ?_) HSS.out ?_
      · have l0 : W9.cell? ⟨g, 1, none⟩ = some (.string aty) := hW9.2.2.2.2.cell 1 _ rfl
        clear hW9
        go_simp
      simp only [Act.put, List.setIfInBounds_toArray, List.set_cons_succ, List.set_cons_zero, List.getElem_toArray, List.getElem_cons_succ, List.getElem_cons_zero]
      refine Y_take (i := 14) (n := 5) (.agg n.row) rfl (by kernel_rfl) (by kernel_rfl) (by kernel_rfl) (by kernel_rfl) (fun _ _ _ h => h) (by rfl) (fun W9 hW9 => ?_) HSS.out ?_
      · exact exec_load_at rowT_node (r := n.row) (hW9.2.2.2.1.range 0 _ (fun j v h => by simpa using h)) rfl _ rfl rfl
      simp only [Act.put, List.setIfInBounds_toArray, List.set_cons_succ, List.set_cons_zero, List.getElem_toArray, List.getElem_cons_succ, List.getElem_cons_zero]
      refine Y_one (i := 13) (n := 4) (by kernel_rfl) rfl (fun K hK => ?_)
      rw [if_pos (by rfl)]
      go_simp
      go_at_call 33
      refine (HRU _ HSS.out.1).out.mono ?_
      rintro e9 w7 ⟨x, rfl, hx, b9⟩
      have HXR := hd hx
      have HSS := hd (HSS.out.keep b9)
      clear hx b9
      refine hK _ _ (fun _ => HSS.out) ?_
      clear hK K
      refine Y_one (i := 15) (n := 3) (by kernel_rfl) rfl (fun K hK => ?_)
      rw [if_pos (by rfl)]
      go_simp
      go_at_call 67
      refine (HKQ _ x HXR.out HSS.out.1).out.mono ?_
      rintro e9 w8 ⟨rfl, b9⟩
      have HSS := hd (HSS.out.keep b9)
      clear b9
      refine hK _ _ (fun _ => HSS.out) ?_
      clear hK K
      refine Y_take (i := 16) (n := 2) (.bool (keepsQ (ruleT s aty) q)) rfl (by kernel_rfl) (by kernel_rfl) (by kernel_rfl) (by kernel_rfl) (fun _ _ _ h => h) (by rfl) (fun W9 hW9 => ?_) HSS.out ?_
      · go_simp
      simp only [Act.put, List.setIfInBounds_toArray, List.set_cons_succ, List.set_cons_zero, List.getElem_toArray, List.getElem_cons_succ, List.getElem_cons_zero]
      refine Y_take (i := 17) (n := 1) (.bool (keepsQ (ruleT s aty) q)) rfl (by kernel_rfl) (by kernel_rfl) (by kernel_rfl) (by kernel_rfl) (fun _ _ _ h => h) (by rfl) (fun W9 hW9 => ?_) HSS.out ?_
      · go_simp
      simp only [Act.put, List.setIfInBounds_toArray, List.set_cons_succ, List.set_cons_zero, List.getElem_toArray, List.getElem_cons_succ, List.getElem_cons_zero]
      refine Y_one (i := 18) (n := 0) (by kernel_rfl) rfl (fun K hK => ?_)
      rw [if_pos (by rfl)]
      go_simp
      refine hK _ _ (fun _ => HSS.out) (Y_done (by kernel_rfl) ?_)
      clear hK K
      go_wp2_with fail
      go_ret
      exact ⟨ret_bool HX.out, HSS.out.1⟩
  · have e4 : (an != 4) = true := by simpa using h4
    have HX := hd (show true = E by rw [← hE]; simp [e4])
    have l0 := later_cell (hv7.cell 0 _ rfl)
    clear hE hnm hv7
    refine wp_region_later W2.heap.size (by kernel_rfl) (by kernel_rfl) ?_
    repeat (go_big_quiet_step (fail))
    refine wpQuiet_nil ?_
    intro w9 hu
    obtain ⟨⟨w10, hw10⟩, hw9⟩ := hu
    have e9 : w10 = w9 := hw9.symm
    subst e9
    have HSS := hd (HIK.out.keep hw10)
    clear hw9 hw10 l0
    go_wp2_with fail
    go_ret
    exact ⟨ret_bool HX.out, HSS.out.1⟩

end Go.Proofs.Ytegaapeaeffgoaa

namespace Go.Proofs.Ytegaapeaeffgoaa
open Go.RowKit

theorem count_sum (l : List Int) : l.count 1 + l.count 2 + l.count 3 + l.count 4 + l.count 5 + l.count 6 ≤ l.length := by
  induction l with
  | nil => simp
  | cons x l ih =>
    simp only [List.count_cons, List.length_cons, beq_iff_eq]
    repeat' split
    all_goals omega
set_option maxRecDepth 4000 in
theorem order_mem {l : List Int} (hl : l.length = 6) : orderT l = [1, 2, 3, 4, 5, 6].all fun c => l.any fun x => c == x := by
  have hs := count_sum l
  rw [hl] at hs
  have hp : ∀ c : Int, (l.any fun x => c == x) = decide (0 < l.count c) := fun c => by
    rw [Bool.eq_iff_iff, List.any_eq_true, decide_eq_true_iff, List.count_pos_iff]
    constructor
    · rintro ⟨x, hx, e⟩
      rw [beq_iff_eq] at e
      rw [e]; exact hx
    · exact fun h => ⟨c, h, by simp⟩
  unfold orderT
  simp only [List.all_cons, List.all_nil, Bool.and_true, hp]
  rw [Bool.eq_iff_iff]
  simp only [Bool.and_eq_true, beq_iff_eq, decide_eq_true_eq]
  omega
set_option maxRecDepth 4000 in
theorem range_any {α : Type} (f : Nat → α) (l : List α) (h : ∀ k (hk : k < l.length), f k = l[k]) (p : α → Bool) : ((List.range l.length).any fun k => p (f k)) = l.any p := by
  have e : (List.range l.length).map f = l := List.ext_getElem (by simp) fun i h1 h2 => by simp [h i h2]
  conv => rhs; rw [← e]
  rw [List.any_map]
  rfl
set_option maxRecDepth 4000 in
theorem range_all {α : Type} (f : Nat → α) (l : List α) (h : ∀ k (hk : k < l.length), f k = l[k]) (p : α → Bool) : ((List.range l.length).all fun k => p (f k)) = l.all p := by
  have e : (List.range l.length).map f = l := List.ext_getElem (by simp) fun i h1 h2 => by simp [h i h2]
  conv => rhs; rw [← e]
  rw [List.all_map]
  rfl
set_option maxRecDepth 4000 in
theorem rise_congr {t u : Nat → Nm} {n : Nat} (h : ∀ k, k < n → t k = u k) : riseT t n = riseT u n := by
  unfold riseT
  rw [Bool.eq_iff_iff, List.all_eq_true, List.all_eq_true]
  constructor
  · intro h1 x hx
    have hx2 := List.mem_range.1 hx
    have := h1 x hx
    unfold stepR at this ⊢
    rw [h x hx2, h (x - 1) (by omega)] at this
    exact this
  · intro h1 x hx
    have hx2 := List.mem_range.1 hx
    have := h1 x hx
    unfold stepR at this ⊢
    rw [h x hx2, h (x - 1) (by omega)]
    exact this
set_option maxRecDepth 4000 in
theorem rulesOk_rise (l : List RuleT) : rulesOk l = riseT (fun k => (rulAt l k).ty) l.length := rfl

set_option maxRecDepth 4000 in
set_option maxHeartbeats 2000000 in
theorem index_any {w : World} {A : Option Addr} {n c : Nat} (q : Nat → Int) (v : Int) (hn : n ≤ 100000) (hq : ∀ k, k < n → ∃ b o, A = some ⟨b, o, none⟩ ∧ w.cell? ⟨b, o + k, none⟩ = some (.int .i64 (q k))) {E : Int} (hE : firstI (fun k => v == q k) n = E) :
    Calls Try.prog 58 #[.slice A n c, .int .i64 v] w fun e w' => e = .returned (.int .i64 E) ∧ w = w' := by
  have HQ := hd hq
  have HE := hd hE
  clear hq hE
  go_enter Try.func58, Try.ntmps58
  go_wp2_with fail
  go_loop [8] (fun i => ∃ k : Nat, k ≤ n ∧ i = .int .i64 k ∧ Hid (∀ j, j < k → (v == q j) = false)) (fun i => n - (intOf i).toNat)
  case atStart => exact ⟨0, Nat.zero_le _, rfl, fun j hj => absurd hj (Nat.not_lt_zero _)⟩
  case round =>
    obtain ⟨k, hk1, rfl, HA⟩ := hrel
    by_cases hlt : k < n
    · obtain ⟨b, o, rfl, hc⟩ := HQ.out k hlt
      cases hp : (v == q k)
      · have HA2 := one_more HA hp
        clear HA
        go_wp2_with fail
        go_round
        case rel => exact ⟨k + 1, by omega, by go_num, HA2⟩
        case measure => simp [intOf]; omega
      · have HX := hd (HE.out.symm.trans (firstI_hit (p := fun k => v == q k) hlt HA.out hp))
        clear HA
        go_wp2_with fail
        go_ret
        exact ⟨ret_int HX.out.symm, rfl⟩
    · obtain rfl : k = n := by omega
      have HX := hd (HE.out.symm.trans (firstI_miss (p := fun k => v == q k) HA.out))
      go_wp2_with fail
      go_ret
      exact ⟨ret_int HX.out.symm, rfl⟩
set_option maxRecDepth 4000 in
theorem contains_any {w : World} {A : Option Addr} {n c : Nat} (q : Nat → Int) (v : Int) (hn : n ≤ 100000) (hq : ∀ k, k < n → ∃ b o, A = some ⟨b, o, none⟩ ∧ w.cell? ⟨b, o + k, none⟩ = some (.int .i64 (q k))) {E : Bool} (hE : anyN (fun k => v == q k) n = E) :
    Calls Try.prog 37 #[.slice A n c, .int .i64 v] w fun e w' => e = .returned (.bool E) ∧ w = w' := by
  obtain ⟨i, hi⟩ : ∃ i, firstI (fun k => v == q k) n = i := ⟨_, rfl⟩
  have HC := hd (index_any (c := c) q v hn hq hi)
  rw [firstI_any, hi] at hE
  clear hq hi
  subst hE
  cases hd0 : decide (0 ≤ i)
  · go_enter Try.func37, Try.ntmps37
    go_wp2_with (go_at_call 58; refine HC.out.mono ?_; rintro e w1 ⟨rfl, rfl⟩)
    go_ret
    exact ⟨rfl, rfl⟩
  · go_enter Try.func37, Try.ntmps37
    go_wp2_with (go_at_call 58; refine HC.out.mono ?_; rintro e w1 ⟨rfl, rfl⟩)
    go_ret
    exact ⟨rfl, rfl⟩

set_option maxRecDepth 100000 in
set_option maxHeartbeats 4000000 in
theorem formed1_any {w : World} {c : RuC} {r : RuleT} (h : RuAt w c r) {E : Bool} (hE : ruleOk r = E) : Calls Try.prog 39 #[.agg c.row] w (Still (.bool (!E)) w) := by
  have hb : Below w.heap.size w (w.alloc (.cells c.row 27)) := (Below.refl _ _).alloc (Nat.le_refl _) _
  have hv := VarR.new w 27 c.row
  obtain ⟨W0, hW⟩ : ∃ W0, w.alloc (.cells c.row 27) = W0 := ⟨_, rfl⟩
  rw [hW] at hb hv
  have HW := hd hW
  have HB := hd hb
  have HV := hd hv
  have HC := hd (formrule_any (h.later hb) hE)
  clear hW hb hv hE h
  go_enter Try.func39, Try.ntmps39
  go_upto_region 1 with fail
  rw [HW.out]
  go_wp2_with (first
    | ((with_reducible refine gd_load (ty := 27) (x := .tmp 1) ?_); refine wpList_load_row rowT_rule HV.out rfl _ rfl rfl rfl ?_)
    | (go_at_call 40; refine HC.out.mono ?_; rintro e9 w1 ⟨rfl, b9⟩; have HB := hd (step_b HB.out b9); clear b9))
  go_ret
  exact ⟨rfl, HB.out⟩

def okA1 (s : SchT) : Bool := decide (s.rules.length ≤ 32) && rulesOk s.rules
set_option maxRecDepth 4000 in
theorem okSchA_parts (s : SchT) : okSchA s = (okA1 s && (emptyN s.els.ty && (decide (1 ≤ s.cap) && (decide (s.cap ≤ 1048576) && (orderT s.order && (allT s).all ruleOk))))) := by
  unfold okSchA okA1
  cases decide (s.rules.length ≤ 32) <;> cases emptyN s.els.ty <;> cases decide (1 ≤ s.cap) <;> cases decide (s.cap ≤ 1048576) <;> cases orderT s.order <;> cases rulesOk s.rules <;> simp

end Go.Proofs.Ytegaapeaeffgoaa
