/- BackPaths answers true. -/
import Derived.Test.YtdjajpookmmafaaBDoes
import Derived.Test.YtdjajpookmmafaaBOpen
import Derived.Test.YtdjajpookmmafaaTLives
import Derived.Deep.DeepCutAuto
namespace Go.Proofs.Ytdjajpookmmafaa
open Go.RowKit

theorem IL.vals {w : World} {B : Nat} {A : Option Addr} {l : List Int} (h : IL w B A l) : VL w B A (l.map (Value.int .i64)) := fun hn => by
  obtain ⟨b, o, e, hb, hc⟩ := h (by rintro rfl; simp at hn)
  refine ⟨b, o, e, hb, fun k u hk => ?_⟩
  rw [List.getElem?_map] at hk
  cases hl : l[k]? with
  | none => rw [hl] at hk; simp at hk
  | some z =>
    rw [hl] at hk
    simp only [Option.map_some, Option.some.injEq] at hk
    have hkl := (List.getElem?_eq_some_iff.1 hl).1
    rw [hc k hkl, ← hk, iAt_eq l k hkl, (List.getElem?_eq_some_iff.1 hl).2]
set_option maxRecDepth 4000 in
/-- A list of numbers appended to the call's own row, as one operation of a region that draws. -/
theorem app_ints {V Wc : World} {ops : Array Oper} {o : Oper} {a : Act} {K : Act → World → Prop} {Q : Exit → Act → World → Prop} {F : Prop} (hgd : o.guard = none) (s x : Operand)
    (ho : o.op = .call { callee := .builtin .append, args := #[s, x], argTypes := #[22, 22] })
    (v : Value) (n : Nat) (k : List Int) (hs : a.eval s = v) (hO : Wc.ownsRow V.heap.size 3 1 v n (k.map (Value.int .i64))) (hB : Below V.heap.size V Wc)
    (A : Option Addr) (m c B : Nat) (l : List Int) (hx : a.eval x = .slice A m c) (hm : l.length = m) (hp : VL Wc B A (l.map (Value.int .i64))) (r : Nat) (hr : n + m = r) (kl : List Int) (hkl : k ++ l = kl) (h63 : r ≤ 1000000)
    (hK : ∀ A' c' w', w'.ownsRow V.heap.size 3 1 (.slice A' r c') r (kl.map (Value.int .i64)) → Below V.heap.size V w' → (∀ g y, Wc.cell? ⟨g, 0, none⟩ = some y → g < Wc.heap.size → v.ownBlock ≠ some g → w'.cell? ⟨g, 0, none⟩ = some y ∧ g < w'.heap.size) → K (a.put o.dst (.slice A' r c')) w') :
    if Region.wanted o (yielded ops a.tmps) = true then Oper.wp Try.prog o a Wc K Q else F := by
  subst hr
  subst hkl
  refine step_append_GX intG Wc hgd s x ho V.heap.size v n (k.map (Value.int .i64)) hs hO A m c B (l.map (Value.int .i64)) hx (by simp [hm]) hp (ints_one l) (by unfold maxLen; omega) (by omega) hB.size (fun A' c' w' h1 h2 h3 => hK A' c' w' (by rw [List.map_append]; exact h1) (hB.grown h2 hB.size (fun j hj => (hO.lt j hj).1)) ?_)
  intro g y hg hl hn
  refine ⟨?_, Nat.lt_of_lt_of_le hl h2.size⟩
  exact (World.cell?_of_block (h2.block g hl (fun e => hn e.symm))).trans hg
set_option maxRecDepth 4000 in
theorem range3 {p q : List Int} {z : Int} (h : ∀ j, j < (p ++ q ++ [z]).length → 0 ≤ iAt (p ++ q ++ [z]) j ∧ iAt (p ++ q ++ [z]) j < 1048576) :
    (∀ k, k < p.length → 0 ≤ iAt p k ∧ iAt p k < 1048576) ∧ (∀ k, k < q.length → 0 ≤ iAt q k ∧ iAt q k < 1048576) ∧ 0 ≤ z ∧ z < 1048576 := by
  have key : ∀ x ∈ p ++ q ++ [z], 0 ≤ x ∧ x < 1048576 := fun x hx => by
    obtain ⟨j, hj, e⟩ := List.getElem_of_mem hx
    have := h j hj
    rw [iAt_eq _ j hj, e] at this
    exact this
  refine ⟨fun k hk => ?_, fun k hk => ?_, key z (by simp)⟩
  · rw [iAt_eq _ k hk]; exact key _ (by simp [List.getElem_mem])
  · rw [iAt_eq _ k hk]; exact key _ (by simp [List.getElem_mem])
set_option maxRecDepth 4000 in
theorem inv_bad {a x : OpP} {er : Int} (h : invO a = (x, er)) (he : er ≠ 0) : x = zeroO := by
  have e : (invO a).1 = x := by rw [h]
  rw [← e]
  have h2 : (invO a).2 ≠ 0 := by rw [h]; exact he
  unfold invO at h2 ⊢
  split at h2
  · rename_i hf; rw [if_pos hf]; exact flip_no h2
  · rename_i hf; rw [if_neg hf]
set_option maxRecDepth 4000 in
theorem mk_block (V Wc : World) (z : Int) (hb : Below V.heap.size V Wc) : ∃ Wb g, Wc.alloc (.cells #[.int .i64 z] 3) = Wb ∧ Wc.heap.size = g ∧ Below V.heap.size V Wb ∧ Wb.cell? ⟨g, 0, none⟩ = some (.int .i64 z) ∧ g < Wb.heap.size ∧ ∀ v n k, Wc.ownsRow V.heap.size 3 1 v n k → Wb.ownsRow V.heap.size 3 1 v n k ∧ v.ownBlock ≠ some g := by
  refine ⟨_, _, rfl, rfl, hb.alloc hb.size _, ?_, by simp, fun v n k h => ⟨h.alloc _, fun e => ?_⟩⟩
  · rw [World.cell?_alloc_at _ _ _ _ rfl]; rfl
  · have := (h.lt _ e).2
    omega
set_option maxRecDepth 4000 in
theorem vl_one {w : World} {g : Nat} {z : Int} (h : w.cell? ⟨g, 0, none⟩ = some (.int .i64 z)) (hg : g < w.heap.size) : VL w w.heap.size (some ⟨g, 0, none⟩) ([z].map (Value.int .i64)) := fun _ => by
  refine ⟨g, 0, rfl, hg, fun k u hk => ?_⟩
  cases k with
  | zero => rw [Nat.zero_add, h]; simpa using hk
  | succ k => simp at hk
set_option maxRecDepth 4000 in
theorem row_il {w : World} {b n c : Nat} {A : Option Addr} {l : List Int} (h : w.ownsRow b 3 1 (.slice A n c) n (l.map (Value.int .i64))) (hn : n = l.length) : IL w w.heap.size A l ∧ n ≤ c := by
  obtain ⟨A', c', e, h1, _, h2⟩ := (OwnI.of_own h hn).open_
  injection e with e1 e2 e3
  subst e1 e3
  exact ⟨h2, by omega⟩
set_option maxRecDepth 4000 in
theorem move_oc {W : World} {c : OC} {a : OpP} {u : Value} {p : List Int} {r : List Int × Bool} (ha : OkA W c a) (ta : Tiny a) (hp : XA W u p) (hr : moveL a.k a.q a.t a.z p = r) : Calls Try.prog 21 #[u, .agg c.row] W (NewPB W r) := by
  rw [ha.hk, ha.hz] at hr
  exact move_at (K := c.k) (pos := c.z) hp (ha.xq ta) (ha.xt ta) hr
set_option maxRecDepth 4000 in
/-- What an operation moves, its inverse moves back. -/
theorem law_paths {a b : OpP} {p : List Int} (hk2 : a.k ≠ 2) (hk3 : a.k ≠ 3) (hk5 : a.k ≠ 5) (hq : a.q ≠ []) (hp : ∀ k, k < p.length → 0 ≤ iAt p k ∧ iAt p k < 1048576) (hq1 : ∀ k, k < a.q.length → 0 ≤ iAt a.q k ∧ iAt a.q k < 1048576) (hz : 0 ≤ a.z ∧ a.z < 1048576) (hb : invO a = (b, 0)) :
    ∃ x, x.length = p.length ∧ moveL a.k a.q a.t a.z p = (x, true) ∧ moveL b.k b.q b.t b.z x = (p, true) := by
  have hf : formE a = 0 := by
    rcases formE_cases a with h | h
    · exact h
    · unfold invO at hb; rw [if_neg (by omega)] at hb; injection hb with _ hb; cases hb
  have hfl : flipO a = (b, 0) := by unfold invO at hb; rwa [if_pos hf] at hb
  obtain ⟨hkb, hfe⟩ := form_eq hf
  simp only [kindB, Bool.and_eq_true, decide_eq_true_iff] at hkb
  have sp : smallI p = true := (smallI_iff p).2 fun k hk => by have := hp k hk; omega
  have sq : smallI a.q = true := (smallI_iff _).2 fun k hk => by have := hq1 k hk; omega
  have cp : capless p = true := (capless_iff p).2 fun k hk => by have := hp k hk; omega
  have cq : capless a.q = true := (capless_iff _).2 fun k hk => by have := hq1 k hk; omega
  have sz : smallN a.z = true := (smallN_iff _).2 (by omega)
  obtain ⟨m, hm⟩ : ∃ m, a.q.length = m + 1 := ⟨a.q.length - 1, by have := List.length_pos_iff.2 hq; omega⟩
  obtain ⟨k, q, t, z, n, o, w, x, f, g⟩ := a
  simp only at hk2 hk3 hk5 hq hp hq1 hz hm sp sq cp cq sz hkb ⊢
  rcases kinds hkb.1 hkb.2 with rfl | rfl | rfl | rfl | rfl | rfl | rfl | rfl | rfl
  · simp [fieldsO, zeroO] at hfe
    obtain ⟨rfl, rfl, _⟩ := hfe
    simp [flipO, undoK] at hfl
    subst hfl
    obtain ⟨y, h1, h2, _, _, h5⟩ := law_insert hm sp sq cp
    exact ⟨y, h2, h1, h5⟩
  · exact absurd rfl hk2
  · exact absurd rfl hk3
  · simp [fieldsO, zeroO] at hfe
    obtain ⟨rfl, _⟩ := hfe
    have hn := next_add hm sq
    simp [flipO, hn] at hfl
    subst hfl
    obtain ⟨y, h1, h2, _, h4⟩ := law_split hm sp sq cp cq sz
    exact ⟨y, h2, h1, h4⟩
  · exact absurd rfl hk5
  · simp [fieldsO, zeroO] at hfe
    obtain ⟨rfl, rfl, _⟩ := hfe
    simp [flipO] at hfl
    subst hfl
    exact ⟨p, rfl, law_stays sp sq rfl rfl (.inl (by omega)), law_stays sp sq rfl rfl (.inl (by first | omega | simp))⟩
  · simp [fieldsO, zeroO] at hfe
    obtain ⟨rfl, _⟩ := hfe
    simp [flipO, undoK] at hfl
    subst hfl
    exact ⟨p, rfl, law_stays sp sq rfl sz (.inl (by omega)), law_stays sp sq rfl sz (.inl (by first | omega | simp))⟩
  · simp [fieldsO, zeroO] at hfe
    obtain ⟨rfl, _⟩ := hfe
    simp [flipO, undoK] at hfl
    subst hfl
    exact ⟨p, rfl, law_stays sp sq rfl sz (.inl (by omega)), law_stays sp sq rfl sz (.inl (by first | omega | simp))⟩
  · simp [fieldsO, zeroO] at hfe
    obtain ⟨rfl, _⟩ := hfe
    exact absurd rfl hq
set_option maxRecDepth 100000 in
set_option maxHeartbeats 8000000 in
theorem bpaths_e0 (w : World) (A : Option Addr) (p : List Int) (lp cap : Nat) (hlp : p.length = lp) (_hm : lp ≤ 9223372036854775807) (_hc : lp ≤ cap) (hp : IL w w.heap.size A p) (c : OC) (a : OpP) (ha : OkA w c a) (hf : fewO a = false) : Calls Try.prog 7 #[.slice A lp cap, .agg c.row] w (AllTrue w) := by
  have HF := hd hf
  clear hf
  have hb0 := new_below w (.cells c.row 35)
  obtain ⟨W0, hW⟩ : ∃ W0, w.alloc (.cells c.row 35) = W0 := ⟨_, rfl⟩
  have e1 := VarO.new w c
  rw [hW] at hb0 e1
  have HV1 := hd e1
  have HB := hd hb0
  have HW := hd hW
  have HH := hd ha
  have HP := hd hp
  have HLP := hd hlp
  have uk0 := e1.ck
  clear hW hb0 e1 ha hp hlp
  go_enter Try.func7, Try.ntmps7
  go_upto_region 1 with fail
  rw [HW.out]
  go_wp2_with (first
    | ((with_reducible refine gd_load (ty := 35) (x := .tmp 3) ?_); refine wpList_load_oc HV1.out _ rfl rfl rfl ?_)
    | (go_at_call 9; refine Calls.mono (live11_any _) ?_; rintro e w1 ⟨rfl, b9⟩; have HV1 := hd (HV1.out.keep b9); have HB := hd (step_b HB.out b9); clear b9)
    | (go_at_call 10; refine Calls.mono (few_at (HH.out.later HB.out) HF.out) ?_; rintro e w2 ⟨rfl, b9⟩; have HV1 := hd (HV1.out.keep b9); have HB := hd (step_b HB.out b9); clear b9 uk0; have uk0 := HV1.out.ck))
  go_ret
  exact ⟨rfl, HB.out⟩
set_option maxRecDepth 100000 in
set_option maxHeartbeats 8000000 in
theorem bpaths_e1 (w : World) (A : Option Addr) (p : List Int) (lp cap : Nat) (hlp : p.length = lp) (hm : lp ≤ 9223372036854775807) (_hc : lp ≤ cap) (hp : IL w w.heap.size A p) (c : OC) (a : OpP) (ha : OkA w c a) (hf : fewO a = true) (h1 : lp > 60) : Calls Try.prog 7 #[.slice A lp cap, .agg c.row] w (AllTrue w) := by
  have HF := hd hf
  clear hf
  have e60 : decide ((60 : Int) < (lp : Int)) = true := decide_eq_true (by omega)
  have f60 : decide (60 < lp) = true := decide_eq_true (by omega)
  have hb0 := new_below w (.cells c.row 35)
  obtain ⟨W0, hW⟩ : ∃ W0, w.alloc (.cells c.row 35) = W0 := ⟨_, rfl⟩
  have e1 := VarO.new w c
  rw [hW] at hb0 e1
  have HV1 := hd e1
  have HB := hd hb0
  have HW := hd hW
  have HH := hd ha
  have HP := hd hp
  have HLP := hd hlp
  have uk0 := e1.ck
  clear hW hb0 e1 ha hp hlp
  go_enter Try.func7, Try.ntmps7
  go_upto_region 1 with fail
  rw [HW.out]
  go_wp2_with (first
    | ((with_reducible refine gd_load (ty := 35) (x := .tmp 3) ?_); refine wpList_load_oc HV1.out _ rfl rfl rfl ?_)
    | (go_at_call 9; refine Calls.mono (live11_any _) ?_; rintro e w1 ⟨rfl, b9⟩; have HV1 := hd (HV1.out.keep b9); have HB := hd (step_b HB.out b9); clear b9)
    | (go_at_call 10; refine Calls.mono (few_at (HH.out.later HB.out) HF.out) ?_; rintro e w2 ⟨rfl, b9⟩; have HV1 := hd (HV1.out.keep b9); have HB := hd (step_b HB.out b9); clear b9 uk0; have uk0 := HV1.out.ck))
  go_ret
  exact ⟨rfl, HB.out⟩
set_option maxRecDepth 100000 in
set_option maxHeartbeats 8000000 in
theorem bpaths_e2 (w : World) (A : Option Addr) (p : List Int) (lp cap : Nat) (hlp : p.length = lp) (hm : lp ≤ 9223372036854775807) (_hc : lp ≤ cap) (hp : IL w w.heap.size A p) (c : OC) (a : OpP) (ha : OkA w c a) (hf : fewO a = true) (h1 : ¬ lp > 60) (k3 : (c.k == 3) = true) : Calls Try.prog 7 #[.slice A lp cap, .agg c.row] w (AllTrue w) := by
  have HF := hd hf
  clear hf
  have e60 : decide ((60 : Int) < (lp : Int)) = false := decide_eq_false (by omega)
  have f60 : decide (60 < lp) = false := decide_eq_false (by omega)
  have hb0 := new_below w (.cells c.row 35)
  obtain ⟨W0, hW⟩ : ∃ W0, w.alloc (.cells c.row 35) = W0 := ⟨_, rfl⟩
  have e1 := VarO.new w c
  rw [hW] at hb0 e1
  have HV1 := hd e1
  have HB := hd hb0
  have HW := hd hW
  have HH := hd ha
  have HP := hd hp
  have HLP := hd hlp
  have uk0 := e1.ck
  clear hW hb0 e1 ha hp hlp
  go_enter Try.func7, Try.ntmps7
  go_upto_region 1 with fail
  rw [HW.out]
  go_wp2_with (first
    | ((with_reducible refine gd_load (ty := 35) (x := .tmp 3) ?_); refine wpList_load_oc HV1.out _ rfl rfl rfl ?_)
    | (go_at_call 9; refine Calls.mono (live11_any _) ?_; rintro e w1 ⟨rfl, b9⟩; have HV1 := hd (HV1.out.keep b9); have HB := hd (step_b HB.out b9); clear b9)
    | (go_at_call 10; refine Calls.mono (few_at (HH.out.later HB.out) HF.out) ?_; rintro e w2 ⟨rfl, b9⟩; have HV1 := hd (HV1.out.keep b9); have HB := hd (step_b HB.out b9); clear b9 uk0; have uk0 := HV1.out.ck))
  go_ret
  exact ⟨rfl, HB.out⟩
set_option maxRecDepth 100000 in
set_option maxHeartbeats 8000000 in
theorem bpaths_e3 (w : World) (A : Option Addr) (p : List Int) (lp cap : Nat) (hlp : p.length = lp) (hm : lp ≤ 9223372036854775807) (_hc : lp ≤ cap) (hp : IL w w.heap.size A p) (c : OC) (a : OpP) (ha : OkA w c a) (hf : fewO a = true) (h1 : ¬ lp > 60) (k3 : (c.k == 3) = false) (k2 : (c.k == 2) = true) : Calls Try.prog 7 #[.slice A lp cap, .agg c.row] w (AllTrue w) := by
  have HF := hd hf
  clear hf
  have e60 : decide ((60 : Int) < (lp : Int)) = false := decide_eq_false (by omega)
  have f60 : decide (60 < lp) = false := decide_eq_false (by omega)
  have hb0 := new_below w (.cells c.row 35)
  obtain ⟨W0, hW⟩ : ∃ W0, w.alloc (.cells c.row 35) = W0 := ⟨_, rfl⟩
  have e1 := VarO.new w c
  rw [hW] at hb0 e1
  have HV1 := hd e1
  have HB := hd hb0
  have HW := hd hW
  have HH := hd ha
  have HP := hd hp
  have HLP := hd hlp
  have uk0 := e1.ck
  clear hW hb0 e1 ha hp hlp
  go_enter Try.func7, Try.ntmps7
  go_upto_region 1 with fail
  rw [HW.out]
  go_wp2_with (first
    | ((with_reducible refine gd_load (ty := 35) (x := .tmp 3) ?_); refine wpList_load_oc HV1.out _ rfl rfl rfl ?_)
    | (go_at_call 9; refine Calls.mono (live11_any _) ?_; rintro e w1 ⟨rfl, b9⟩; have HV1 := hd (HV1.out.keep b9); have HB := hd (step_b HB.out b9); clear b9)
    | (go_at_call 10; refine Calls.mono (few_at (HH.out.later HB.out) HF.out) ?_; rintro e w2 ⟨rfl, b9⟩; have HV1 := hd (HV1.out.keep b9); have HB := hd (step_b HB.out b9); clear b9 uk0; have uk0 := HV1.out.ck))
  go_ret
  exact ⟨rfl, HB.out⟩
set_option maxRecDepth 100000 in
set_option maxHeartbeats 8000000 in
theorem bpaths_e4 (w : World) (A : Option Addr) (p : List Int) (lp cap : Nat) (hlp : p.length = lp) (hm : lp ≤ 9223372036854775807) (_hc : lp ≤ cap) (hp : IL w w.heap.size A p) (c : OC) (a : OpP) (ha : OkA w c a) (hf : fewO a = true) (h1 : ¬ lp > 60) (k3 : (c.k == 3) = false) (k2 : (c.k == 2) = false) (k5 : (c.k == 5) = true) : Calls Try.prog 7 #[.slice A lp cap, .agg c.row] w (AllTrue w) := by
  have HF := hd hf
  clear hf
  have e60 : decide ((60 : Int) < (lp : Int)) = false := decide_eq_false (by omega)
  have f60 : decide (60 < lp) = false := decide_eq_false (by omega)
  have hb0 := new_below w (.cells c.row 35)
  obtain ⟨W0, hW⟩ : ∃ W0, w.alloc (.cells c.row 35) = W0 := ⟨_, rfl⟩
  have e1 := VarO.new w c
  rw [hW] at hb0 e1
  have HV1 := hd e1
  have HB := hd hb0
  have HW := hd hW
  have HH := hd ha
  have HP := hd hp
  have HLP := hd hlp
  have uk0 := e1.ck
  clear hW hb0 e1 ha hp hlp
  go_enter Try.func7, Try.ntmps7
  go_upto_region 1 with fail
  rw [HW.out]
  go_wp2_with (first
    | ((with_reducible refine gd_load (ty := 35) (x := .tmp 3) ?_); refine wpList_load_oc HV1.out _ rfl rfl rfl ?_)
    | (go_at_call 9; refine Calls.mono (live11_any _) ?_; rintro e w1 ⟨rfl, b9⟩; have HV1 := hd (HV1.out.keep b9); have HB := hd (step_b HB.out b9); clear b9)
    | (go_at_call 10; refine Calls.mono (few_at (HH.out.later HB.out) HF.out) ?_; rintro e w2 ⟨rfl, b9⟩; have HV1 := hd (HV1.out.keep b9); have HB := hd (step_b HB.out b9); clear b9 uk0; have uk0 := HV1.out.ck))
  go_ret
  exact ⟨rfl, HB.out⟩
set_option maxRecDepth 100000 in
set_option maxHeartbeats 32000000 in
theorem bpaths_mid (w : World) (A : Option Addr) (p : List Int) (lp cap : Nat) (hlp : p.length = lp) (hm : lp ≤ 9223372036854775807) (hc : lp ≤ cap) (hp : IL w w.heap.size A p) (c : OC) (a : OpP) (ha : OkA w c a) (hf : fewO a = true) (h1 : ¬ lp > 60) (k3 : (c.k == 3) = false) (k2 : (c.k == 2) = false) (k5 : (c.k == 5) = false) : Calls Try.prog 7 #[.slice A lp cap, .agg c.row] w (AllTrue w) := by
  have HTA := hd (fewO_tiny hf)
  have HF := hd hf
  clear hf
  have e60 : decide ((60 : Int) < (lp : Int)) = false := decide_eq_false (by omega)
  have f60 : decide (60 < lp) = false := decide_eq_false (by omega)
  have hb0 := new_below w (.cells c.row 35)
  obtain ⟨W0, hW⟩ : ∃ W0, w.alloc (.cells c.row 35) = W0 := ⟨_, rfl⟩
  have e1 := VarO.new w c
  rw [hW] at hb0 e1
  have HV1 := hd e1
  have HB := hd hb0
  have HW := hd hW
  have HH := hd ha
  have HP := hd hp
  have HLP := hd hlp
  have uk0 := e1.ck
  clear hW hb0 e1 ha hp hlp
  go_enter Try.func7, Try.ntmps7
  go_upto_region 1 with fail
  rw [HW.out]
  go_upto_region 5 with (first
    | ((with_reducible refine gd_load (ty := 35) (x := .tmp 3) ?_); refine wpList_load_oc HV1.out _ rfl rfl rfl ?_)
    | (go_at_call 9; refine Calls.mono (live11_any _) ?_; rintro e w1 ⟨rfl, b9⟩; have HV1 := hd (HV1.out.keep b9); have HB := hd (step_b HB.out b9); clear b9)
    | (go_at_call 10; refine Calls.mono (few_at (HH.out.later HB.out) HF.out) ?_; rintro e w2 ⟨rfl, b9⟩; have HV1 := hd (HV1.out.keep b9); have HB := hd (step_b HB.out b9); clear b9 uk0; have uk0 := HV1.out.ck))
  have HLQ := hd HH.out.hlq
  obtain ⟨W, hWW⟩ : ∃ W, w2 = W := ⟨_, rfl⟩
  rw [hWW] at HV1 HB ⊢
  clear hWW uk0
  go_cut [46, 47, 48] (fun s46 s47 s48 wx => ∃ (A6 : Option Addr) (c6 : Nat), s46 = .slice A6 (lp + c.lq + 1) c6 ∧ s47 = .int .i64 ((lp + c.lq + 1 : Nat) : Int) ∧ s48 = .int .i64 0 ∧ IL wx wx.heap.size A6 (p ++ a.q ++ [c.z]) ∧ lp + c.lq + 1 ≤ c6 ∧ Below W.heap.size W wx)
  case first =>
    refine Y_start (S := fun W' => VarO W' w.heap.size c) (z := fun _ => false) (by kernel_rfl) ?_
    have HBW := hd (show Below W.heap.size W W.drew from (Below.refl _ _).drew)
    generalize W.drew = V at HBW ⊢
    have HV1 := hd (HV1.out.keep HBW.out)
    have HB := hd (step_b HB.out HBW.out)
    have HSS := HV1
    have hlq := HLQ.out
    have hlp := HLP.out
    have hq60 : c.lq ≤ 60 := by rw [← HLQ.out]; exact HTA.out.hq
    have HB0 := hd (Below.refl V.heap.size V)
    have HPP := hd (fun W' (h : Below V.heap.size V W') => ((HP.out.later HB.out).later h).vals)
    have HQQ := hd (fun W' (h : Below V.heap.size V W') => (((HH.out.later HB.out).later h).hq).vals)
    refine Y_take (i := 0) (n := 10) (.slice A lp cap) rfl (by kernel_rfl) (by kernel_rfl) (by kernel_rfl) (by kernel_rfl) (fun _ _ _ h => h) (by rfl) (fun W hW => ?_) HSS.out ?_
    · skip
      go_simp
    simp only [Act.put, List.setIfInBounds_toArray]
    refine Y_take (i := 2) (n := 9) (.pointer (some ⟨w.heap.size, 1, none⟩)) rfl (by kernel_rfl) (by kernel_rfl) (by kernel_rfl) (by kernel_rfl) (fun _ _ _ h => h) (by rfl) (fun W hW => ?_) HSS.out ?_
    · skip
      go_simp
    simp only [Act.put]
    refine Y_take (i := 3) (n := 8) (.slice c.Q c.lq c.cq) rfl (by kernel_rfl) (by kernel_rfl) (by kernel_rfl) (by kernel_rfl) (fun _ _ _ h => h) (by rfl) (fun W hW => ?_) HSS.out ?_
    · have y1 := VarO.cq hW
      go_simp
    simp only [Act.put]
    refine Y_take (i := 5) (n := 7) (.pointer (some ⟨w.heap.size, 3, none⟩)) rfl (by kernel_rfl) (by kernel_rfl) (by kernel_rfl) (by kernel_rfl) (fun _ _ _ h => h) (by rfl) (fun W hW => ?_) HSS.out ?_
    · skip
      go_simp
    simp only [Act.put]
    refine Y_take (i := 6) (n := 6) (.int .i64 c.z) rfl (by kernel_rfl) (by kernel_rfl) (by kernel_rfl) (by kernel_rfl) (fun _ _ _ h => h) (by rfl) (fun W hW => ?_) HSS.out ?_
    · have y1 := VarO.cz hW
      go_simp
    simp only [Act.put]
    refine Y_take (i := 10) (n := 5) (.int .i64 0) rfl (by kernel_rfl) (by kernel_rfl) (by kernel_rfl) (by kernel_rfl) (fun _ _ _ h => h) (by rfl) (fun W hW => ?_) HSS.out ?_
    · skip
      go_simp
    simp only [Act.put]
    refine Y_two (i := 1) (j := 7) (n := 4) (by kernel_rfl) rfl rfl (fun K hK => ?_) (fun K hK => ?_)
    · refine app_ints (V := V) (Wc := V) rfl (.const (.slice none 0 0)) (.tmp 38) rfl (.slice none 0 0) 0 [] rfl (World.ownsRow_nil _ _ _ _) HB0.out A lp cap _ p rfl HLP.out (HPP.out _ HB0.out) lp (by omega) p (by simp) (by omega) ?_
      rintro A7 c7 w7 hO7 hb7 hc7
      refine hK _ _ (fun _ => HV1.out.keep hb7) ?_
      clear hK K
      have HO7 := hd hO7
      have HB7 := hd hb7
      have HC7 := hd hc7
      clear hO7 hb7 hc7
      refine Y_two (i := 4) (j := 7) (n := 3) (by kernel_rfl) rfl rfl (fun K hK => ?_) (fun K hK => ?_)
      · refine app_ints (V := V) (Wc := w7) rfl (.tmp 39) (.tmp 41) rfl (.slice A7 lp c7) lp p rfl HO7.out HB7.out c.Q c.lq c.cq _ a.q rfl HLQ.out (HQQ.out _ HB7.out) (lp + c.lq) (by omega) (p ++ a.q) (by simp) (by omega) ?_
        rintro A8 c8 w8 hO8 hb8 hc8
        refine hK _ _ (fun _ => HV1.out.keep hb8) ?_
        clear hK K
        have HO8 := hd hO8
        have HB8 := hd hb8
        have HC8 := hd hc8
        clear hO8 hb8 hc8
        refine Y_one (i := 7) (n := 2) (by kernel_rfl) rfl (fun K hK => ?_)
        obtain ⟨Wb, g, e1, e2, hbm, hcm, hgm, hom⟩ := mk_block V w8 c.z HB8.out
        rw [if_pos (by rfl)]
        go_simp
        refine hK _ _ (fun _ => HV1.out.keep hbm) ?_
        clear hK K e1 e2
        have HBM := hd hbm
        have HCM := hd hcm
        have HOM := hd hom
        clear hbm hcm hom
        refine Y_one (i := 8) (n := 1) (by kernel_rfl) rfl (fun K hK => ?_)
        refine app_ints (V := V) (Wc := Wb) rfl (.tmp 42) (.tmp 45) rfl (.slice A8 (lp + c.lq) c8) (lp + c.lq) (p ++ a.q) rfl (HOM.out _ _ _ HO8.out).1 HBM.out (some ⟨g, 0, none⟩) 1 1 _ [c.z] rfl rfl (vl_one HCM.out hgm) (lp + c.lq + 1) (by omega) (p ++ a.q ++ [c.z]) (by simp) (by omega) ?_
        rintro A9 c9 w9 hO9 hb9 hc9
        refine hK _ _ (fun _ => HV1.out.keep hb9) ?_
        clear hK K
        have HO9 := hd hO9
        have HB9 := hd hb9
        have HC9 := hd hc9
        clear hO9 hb9 hc9
        refine Y_one (i := 9) (n := 0) (by kernel_rfl) rfl (fun K hK => ?_)
        rw [if_pos (by rfl)]
        go_simp
        refine hK _ _ (fun _ => HV1.out.keep HB9.out) (Y_done (by kernel_rfl) ?_)
        clear hK K
        have hil := row_il HO9.out (by simp [HLP.out, HLQ.out]; omega)
        go_wp2_with fail
        go_meet
        case rel => exact ⟨A9, c9, rfl, rfl, rfl, hil.1, hil.2, step_b HBW.out HB9.out⟩
      · obtain ⟨Wb, g, e1, e2, hbm, hcm, hgm, hom⟩ := mk_block V w7 c.z HB7.out
        rw [if_pos (by rfl)]
        go_simp
        refine hK _ _ (fun _ => HV1.out.keep hbm) ?_
        clear hK K e1 e2
        have HBM := hd hbm
        have HCM := hd hcm
        have HOM := hd hom
        clear hbm hcm hom
        refine Y_one (i := 4) (n := 2) (by kernel_rfl) rfl (fun K hK => ?_)
        refine app_ints (V := V) (Wc := Wb) rfl (.tmp 39) (.tmp 41) rfl (.slice A7 lp c7) lp p rfl (HOM.out _ _ _ HO7.out).1 HBM.out c.Q c.lq c.cq _ a.q rfl HLQ.out (HQQ.out _ HBM.out) (lp + c.lq) (by omega) (p ++ a.q) (by simp) (by omega) ?_
        rintro A8 c8 w8 hO8 hb8 hc8
        refine hK _ _ (fun _ => HV1.out.keep hb8) ?_
        clear hK K
        have HO8 := hd hO8
        have HB8 := hd hb8
        have HC8 := hd hc8
        clear hO8 hb8 hc8
        obtain ⟨hcn, hgn⟩ := HC8.out g _ HCM.out hgm (HOM.out _ _ _ HO7.out).2
        refine Y_one (i := 8) (n := 1) (by kernel_rfl) rfl (fun K hK => ?_)
        refine app_ints (V := V) (Wc := w8) rfl (.tmp 42) (.tmp 45) rfl (.slice A8 (lp + c.lq) c8) (lp + c.lq) (p ++ a.q) rfl HO8.out HB8.out (some ⟨g, 0, none⟩) 1 1 _ [c.z] rfl rfl (vl_one hcn hgn) (lp + c.lq + 1) (by omega) (p ++ a.q ++ [c.z]) (by simp) (by omega) ?_
        rintro A9 c9 w9 hO9 hb9 hc9
        refine hK _ _ (fun _ => HV1.out.keep hb9) ?_
        clear hK K
        have HO9 := hd hO9
        have HB9 := hd hb9
        have HC9 := hd hc9
        clear hO9 hb9 hc9
        refine Y_one (i := 9) (n := 0) (by kernel_rfl) rfl (fun K hK => ?_)
        rw [if_pos (by rfl)]
        go_simp
        refine hK _ _ (fun _ => HV1.out.keep HB9.out) (Y_done (by kernel_rfl) ?_)
        clear hK K
        have hil := row_il HO9.out (by simp [HLP.out, HLQ.out]; omega)
        go_wp2_with fail
        go_meet
        case rel => exact ⟨A9, c9, rfl, rfl, rfl, hil.1, hil.2, step_b HBW.out HB9.out⟩
    · obtain ⟨Wb, g, e1, e2, hbm, hcm, hgm, hom⟩ := mk_block V V c.z HB0.out
      rw [if_pos (by rfl)]
      go_simp
      refine hK _ _ (fun _ => HV1.out.keep hbm) ?_
      clear hK K e1 e2
      have HBM := hd hbm
      have HCM := hd hcm
      have HOM := hd hom
      clear hbm hcm hom
      obtain ⟨Y, hY⟩ : ∃ Y, Wb = Y := ⟨_, rfl⟩
      rw [hY] at HBM HCM hgm ⊢
      have hY2 := hgm
      clear hY HOM
      have HV1 := hd (HV1.out.keep HBM.out)
      have HPP := hd (fun W' (h : Below Y.heap.size Y W') => HPP.out W' (step_b HBM.out h))
      have HQQ := hd (fun W' (h : Below Y.heap.size Y W') => HQQ.out W' (step_b HBM.out h))
      have HBW := hd (step_b HBW.out HBM.out)
      have HB0 := hd (Below.refl Y.heap.size Y)
      refine Y_one (i := 1) (n := 3) (by kernel_rfl) rfl (fun K hK => ?_)
      refine app_ints (V := Y) (Wc := Y) rfl (.const (.slice none 0 0)) (.tmp 38) rfl (.slice none 0 0) 0 [] rfl (World.ownsRow_nil _ _ _ _) HB0.out A lp cap _ p rfl HLP.out (HPP.out _ HB0.out) lp (by omega) p (by simp) (by omega) ?_
      rintro A7 c7 w7 hO7 hb7 hc7
      refine hK _ _ (fun _ => HV1.out.keep hb7) ?_
      clear hK K
      have HO7 := hd hO7
      have HB7 := hd hb7
      have HC7 := hd hc7
      clear hO7 hb7 hc7
      obtain ⟨hcn, hgn⟩ := HC7.out g _ HCM.out hgm (by simp [Value.ownBlock])
      have HN7 := hd (show (Value.slice A7 lp c7).ownBlock ≠ some g from fun e => by have := (HO7.out.lt _ e).1; omega)
      refine Y_one (i := 4) (n := 2) (by kernel_rfl) rfl (fun K hK => ?_)
      refine app_ints (V := Y) (Wc := w7) rfl (.tmp 39) (.tmp 41) rfl (.slice A7 lp c7) lp p rfl HO7.out HB7.out c.Q c.lq c.cq _ a.q rfl HLQ.out (HQQ.out _ HB7.out) (lp + c.lq) (by omega) (p ++ a.q) (by simp) (by omega) ?_
      rintro A8 c8 w8 hO8 hb8 hc8
      refine hK _ _ (fun _ => HV1.out.keep hb8) ?_
      clear hK K
      have HO8 := hd hO8
      have HB8 := hd hb8
      have HC8 := hd hc8
      clear hO8 hb8 hc8
      obtain ⟨hcn, hgn⟩ := HC8.out g _ hcn hgn HN7.out
      refine Y_one (i := 8) (n := 1) (by kernel_rfl) rfl (fun K hK => ?_)
      refine app_ints (V := Y) (Wc := w8) rfl (.tmp 42) (.tmp 45) rfl (.slice A8 (lp + c.lq) c8) (lp + c.lq) (p ++ a.q) rfl HO8.out HB8.out (some ⟨g, 0, none⟩) 1 1 _ [c.z] rfl rfl (vl_one hcn hgn) (lp + c.lq + 1) (by omega) (p ++ a.q ++ [c.z]) (by simp) (by omega) ?_
      rintro A9 c9 w9 hO9 hb9 hc9
      refine hK _ _ (fun _ => HV1.out.keep hb9) ?_
      clear hK K
      have HO9 := hd hO9
      have HB9 := hd hb9
      have HC9 := hd hc9
      clear hO9 hb9 hc9
      refine Y_one (i := 9) (n := 0) (by kernel_rfl) rfl (fun K hK => ?_)
      rw [if_pos (by rfl)]
      go_simp
      refine hK _ _ (fun _ => HV1.out.keep HB9.out) (Y_done (by kernel_rfl) ?_)
      clear hK K
      have hil := row_il HO9.out (by simp [HLP.out, HLQ.out]; omega)
      go_wp2_with fail
      go_meet
      case rel => exact ⟨A9, c9, rfl, rfl, rfl, hil.1, hil.2, step_b HBW.out HB9.out⟩
  case rest =>
    obtain ⟨A6, c6, rfl, rfl, rfl, hil, hcc, hbw⟩ := hcut
    have HV1 := hd (HV1.out.keep hbw)
    have HB := hd (step_b HB.out hbw)
    obtain ⟨N, hN⟩ : ∃ N, lp + c.lq + 1 = N := ⟨_, rfl⟩
    obtain ⟨L, hL⟩ : ∃ L, p ++ a.q ++ [c.z] = L := ⟨_, rfl⟩
    have hLN : L.length = N := by rw [← hL, ← hN]; simp [HLP.out, HLQ.out]; omega
    have hq60 : c.lq ≤ 60 := by rw [← HLQ.out]; exact HTA.out.hq
    have hN121 : N ≤ 121 := by omega
    rw [hL] at hil
    rw [hN] at hcc ⊢
    have HIL := hd hil
    have HL := hd hL
    have HLN := hd hLN
    clear hil hL hLN hbw hN hq60
    obtain ⟨U, hU⟩ : ∃ U, wc = U := ⟨_, rfl⟩
    rw [hU] at HV1 HB HIL ⊢
    clear hU
    go_wp2_with fail
    go_loopw [48] (fun i wr => ∃ n : Nat, n ≤ N ∧ i = .int .i64 n ∧ Hid (∀ j, j < n → 0 ≤ iAt L j ∧ iAt L j < 1048576) ∧ Hid (Below U.heap.size U wr)) (fun i _ => N - (intOf i).toNat)
    case atStart => exact ⟨0, Nat.zero_le _, rfl, hd (fun j hj => absurd hj (Nat.not_lt_zero _)), hd (Below.refl _ _)⟩
    case round =>
      obtain ⟨n, hn1, rfl, HA, HBr⟩ := hrel
      by_cases hlt : n < N
      · obtain ⟨b1, o1, rfl, hl1, c1⟩ := (HIL.out.later HBr.out).at_ (by rw [HLN.out]; exact hlt)
        by_cases hs : iAt L n < 0
        · have HB := hd (step_b HB.out HBr.out)
          clear HA
          go_wp2_with fail
          go_ret
          exact ⟨rfl, HB.out⟩
        · by_cases hs2 : 1048576 ≤ iAt L n
          · have HB := hd (step_b HB.out HBr.out)
            clear HA
            go_wp2_with fail
            go_ret
            exact ⟨rfl, HB.out⟩
          · have HA := one_more (p := fun j => 0 ≤ iAt L j ∧ iAt L j < 1048576) HA (by omega)
            go_wp2_with fail
            go_roundw
            case rel => exact ⟨n + 1, by omega, by go_num, HA, HBr⟩
            case measure => simp [intOf]; omega
      · obtain rfl : n = N := by omega
        have HV1 := hd (HV1.out.keep HBr.out)
        have HB := hd (step_b HB.out HBr.out)
        have hin0 := range3 (p := p) (q := a.q) (z := c.z) (fun j hj => by have h := HA.out j (by rw [← HLN.out, ← HL.out]; exact hj); rw [HL.out]; exact h)
        have HRG := hd hin0
        clear HA HIL HBr HL HLN hin0 hn1
        obtain ⟨⟨x, er⟩, hin⟩ : ∃ r, invO a = r := ⟨_, rfl⟩
        have HTX := hd (show Tiny x by have h := inv_tiny HTA.out; rw [hin] at h; exact h)
        have HIN := hd hin
        have h1000 : lp ≤ 1000 := by omega
        have HCAP := hd hc
        clear hin hc hlt
        by_cases he : er = 0
        · subst he
          by_cases hq0 : c.lq = 0
          · obtain ⟨E, hsz⟩ : ∃ E, eqO x zeroO = E := ⟨_, rfl⟩
            have HSZ := hd hsz
            have eq0 : ((c.lq : Int) == 0) = true := by simp [hq0]
            have fq0 : (c.lq == 0) = true := by simp [hq0]
            clear hsz hq0
            obtain ⟨⟨x1, y1⟩, hm1⟩ : ∃ r, moveL a.k a.q a.t a.z p = r := ⟨_, rfl⟩
            have HM1 := hd hm1
            clear hm1
            cases E <;> (go_wp2_with (first
              | ((with_reducible refine gd_load (ty := 35) (x := .tmp 3) ?_); refine wpList_load_oc HV1.out _ rfl rfl rfl ?_)
              | ((with_reducible refine gd_load (ty := 35) (x := .tmp 7) ?_); refine wpList_load_oc HV7.out _ rfl rfl rfl ?_)
              | (go_at_call 11; refine (inverse_at _ c a (HH.out.later HB.out) HTA.out).mono ?_; rintro e w3 ⟨cx, rfl, hs, b9⟩; have HX := hd hs.now; have HV1 := hd (HV1.out.keep b9); have HB := hd (step_b HB.out b9); clear hs b9; rw [HIN.out]; dsimp only; rw [HIN.out] at HX)
              | ((with_reducible refine gd_store (ty := 35) (x := .tmp 7) ?_); refine wpList_store_oc (c := cx) _ _ rfl rfl rfl rfl rfl rfl rfl ?_; have hb9 := new_below w3 (.cells (OC.row cx) 35); have HV7 := hd (VarO.new w3 cx); have HX := hd (HX.out.later hb9); have HV1 := hd (HV1.out.keep hb9); have HB := hd (step_b HB.out hb9); clear hb9)
              | (go_at_call 21; have h1 := HM1.out; clear HM1; refine (move_oc (HH.out.later HB.out) HTA.out ⟨A, lp, cap, rfl, HLP.out, h1000, HCAP.out, HP.out.later HB.out⟩ h1).mono ?_; clear h1; rintro e w4 ⟨v4, rfl, ho4, b9⟩; have HO4 := hd ho4; have HX := hd (HX.out.later b9); have HV7 := hd (HV7.out.keep b9); have HV1 := hd (HV1.out.keep b9); have HB := hd (step_b HB.out b9); clear ho4 b9; have uq := HV1.out.cq)
              | (go_at_call 13; refine Calls.mono (rsameop_at (d := (OC.mk 0 none 0 0 none 0 0 0 false none 0 0 none 0 0 none 0 0 none 0 0 none 0 0 none 0 0 false none 0 0 0 none 0 0 0 false none 0 0 0 none 0 0 0)) HX.out (OkA.zero _) HTX.out Tiny.zero HSZ.out) ?_; rintro e w6 ⟨rfl, b9⟩; have HV1 := hd (HV1.out.keep b9); have HB := hd (step_b HB.out b9); clear b9; have uq6 := HV1.out.cq)); go_ret; exact ⟨rfl, HB.out⟩)
          · have eq0 : ((c.lq : Int) == 0) = false := by rw [beq_eq_false_iff_ne]; omega
            have fq0 : (c.lq == 0) = false := by rw [beq_eq_false_iff_ne]; omega
            obtain ⟨x1, hx1, hm1, hm2⟩ := law_paths (p := p) (a := a) (by rw [HH.out.hk]; simpa using k2) (by rw [HH.out.hk]; simpa using k3) (by rw [HH.out.hk]; simpa using k5) (fun e => hq0 (by rw [← HLQ.out, e]; rfl)) HRG.out.1 HRG.out.2.1 (by rw [HH.out.hz]; exact HRG.out.2.2) HIN.out
            have HM1 := hd hm1
            have HM2 := hd hm2
            have HLX := hd (show x1.length ≤ 1000 by rw [hx1, HLP.out]; exact h1000)
            have h1000p := hd (show p.length ≤ 1000 by rw [HLP.out]; exact h1000)
            have HSP := hd (show samI p p = true by unfold samI; simp)
            clear hm1 hm2 hx1 hq0
            go_wp2_with (first
              | ((with_reducible refine gd_load (ty := 35) (x := .tmp 3) ?_); refine wpList_load_oc HV1.out _ rfl rfl rfl ?_)
              | ((with_reducible refine gd_load (ty := 35) (x := .tmp 7) ?_); refine wpList_load_oc HV7.out _ rfl rfl rfl ?_)
              | (go_at_call 11; refine (inverse_at _ c a (HH.out.later HB.out) HTA.out).mono ?_; rintro e w3 ⟨cx, rfl, hs, b9⟩; have HX := hd hs.now; have HV1 := hd (HV1.out.keep b9); have HB := hd (step_b HB.out b9); clear hs b9; rw [HIN.out]; dsimp only; rw [HIN.out] at HX)
              | ((with_reducible refine gd_store (ty := 35) (x := .tmp 7) ?_); refine wpList_store_oc (c := cx) _ _ rfl rfl rfl rfl rfl rfl rfl ?_; have hb9 := new_below w3 (.cells (OC.row cx) 35); have HV7 := hd (VarO.new w3 cx); have HX := hd (HX.out.later hb9); have HV1 := hd (HV1.out.keep hb9); have HB := hd (step_b HB.out hb9); clear hb9)
              | (go_at_call 21; have h1 := HM1.out; clear HM1; refine (move_oc (HH.out.later HB.out) HTA.out ⟨A, lp, cap, rfl, HLP.out, h1000, HCAP.out, HP.out.later HB.out⟩ h1).mono ?_; clear h1; rintro e w4 ⟨v4, rfl, ho4, b9⟩; have HO4 := hd ho4; have HX := hd (HX.out.later b9); have HV7 := hd (HV7.out.keep b9); have HV1 := hd (HV1.out.keep b9); have HB := hd (step_b HB.out b9); clear ho4 b9; have uq := HV1.out.cq)
              | (go_at_call 21; have h2 := HO4.out; refine (move_oc HX.out HTX.out (XA.own HO4.out HLX.out) HM2.out).mono ?_; rintro e w5 ⟨v5, rfl, ho5, b9⟩; have HO5 := hd ho5; have HV1 := hd (HV1.out.keep b9); have HB := hd (step_b HB.out b9); clear ho5 b9)
              | (go_at_call 22; refine Calls.mono (xsame_at (XA.own HO5.out h1000p.out) ⟨A, lp, cap, rfl, HLP.out, h1000, HCAP.out, HP.out.later HB.out⟩ HSP.out) ?_; rintro e w6 ⟨rfl, b9⟩; have HB := hd (step_b HB.out b9); clear b9))
            go_ret
            exact ⟨rfl, HB.out⟩
        · have ein : (er != 0) = true := by simpa using he
          have HSZ := hd (show eqO x zeroO = true from by rw [inv_bad HIN.out he]; exact eqO_self _)
          clear he
          obtain ⟨⟨x1, y1⟩, hm1⟩ : ∃ r, moveL a.k a.q a.t a.z p = r := ⟨_, rfl⟩
          have HM1 := hd hm1
          clear hm1
          go_wp2_with (first
            | ((with_reducible refine gd_load (ty := 35) (x := .tmp 3) ?_); refine wpList_load_oc HV1.out _ rfl rfl rfl ?_)
            | ((with_reducible refine gd_load (ty := 35) (x := .tmp 7) ?_); refine wpList_load_oc HV7.out _ rfl rfl rfl ?_)
            | (go_at_call 11; refine (inverse_at _ c a (HH.out.later HB.out) HTA.out).mono ?_; rintro e w3 ⟨cx, rfl, hs, b9⟩; have HX := hd hs.now; have HV1 := hd (HV1.out.keep b9); have HB := hd (step_b HB.out b9); clear hs b9; rw [HIN.out]; dsimp only; rw [HIN.out] at HX)
            | ((with_reducible refine gd_store (ty := 35) (x := .tmp 7) ?_); refine wpList_store_oc (c := cx) _ _ rfl rfl rfl rfl rfl rfl rfl ?_; have hb9 := new_below w3 (.cells (OC.row cx) 35); have HV7 := hd (VarO.new w3 cx); have HX := hd (HX.out.later hb9); have HV1 := hd (HV1.out.keep hb9); have HB := hd (step_b HB.out hb9); clear hb9)
            | (go_at_call 21; have h1 := HM1.out; clear HM1; refine (move_oc (HH.out.later HB.out) HTA.out ⟨A, lp, cap, rfl, HLP.out, h1000, HCAP.out, HP.out.later HB.out⟩ h1).mono ?_; clear h1; rintro e w4 ⟨v4, rfl, ho4, b9⟩; have HO4 := hd ho4; have HX := hd (HX.out.later b9); have HV7 := hd (HV7.out.keep b9); have HV1 := hd (HV1.out.keep b9); have HB := hd (step_b HB.out b9); clear ho4 b9; have uq := HV1.out.cq)
            | (go_at_call 13; refine Calls.mono (rsameop_at (d := (OC.mk 0 none 0 0 none 0 0 0 false none 0 0 none 0 0 none 0 0 none 0 0 none 0 0 none 0 0 false none 0 0 0 none 0 0 0 false none 0 0 0 none 0 0 0)) HX.out (OkA.zero _) HTX.out Tiny.zero HSZ.out) ?_; rintro e w6 ⟨rfl, b9⟩; have HV1 := hd (HV1.out.keep b9); have HB := hd (step_b HB.out b9); clear b9; have uq6 := HV1.out.cq))
          go_ret
          exact ⟨rfl, HB.out⟩
set_option maxRecDepth 4000 in
theorem bpaths_law (w : World) (A : Option Addr) (p : List Int) (lp cap : Nat) (hlp : p.length = lp) (hm : lp ≤ 9223372036854775807) (hc : lp ≤ cap) (hp : IL w w.heap.size A p) (c : OC) (a : OpP) (ha : OkA w c a) : Calls Try.prog 7 #[.slice A lp cap, .agg c.row] w (AllTrue w) := by
  cases hf : fewO a
  · exact bpaths_e0 w A p lp cap hlp hm hc hp c a ha hf
  · by_cases h1 : lp > 60
    · exact bpaths_e1 w A p lp cap hlp hm hc hp c a ha hf h1
    · cases k3 : (c.k == 3)
      · cases k2 : (c.k == 2)
        · cases k5 : (c.k == 5)
          · exact bpaths_mid w A p lp cap hlp hm hc hp c a ha hf h1 k3 k2 k5
          · exact bpaths_e4 w A p lp cap hlp hm hc hp c a ha hf h1 k3 k2 k5
        · exact bpaths_e3 w A p lp cap hlp hm hc hp c a ha hf h1 k3 k2
      · exact bpaths_e2 w A p lp cap hlp hm hc hp c a ha hf h1 k3

end Go.Proofs.Ytdjajpookmmafaa
