/- Arguments that are trees, opened: what their cells hold; how great they are. An argument that is a list of numbers, opened: what its cells hold. -/
import Derived.Test.YtdjajpookmmafaaNTops
import Derived.Test.YtdjajpookmmafaaRows
import Derived.ProofKit
import Derived.Deep.Slices
import Derived.SizedLaws
import Derived.OpenShut
import Derived.Test.YtdjajpookmmafaaIBase
import Derived.Deep.Fields
namespace Go.Proofs.Ytdjajpookmmafaa
open Go.ChangeShapes Go.WideShapes Go.RowKit Go.Deep

theorem own : ownKnob Try.prog.godebug = none := by kernel_rfl
set_option maxRecDepth 4000 in
theorem laidOut : laidOutB Try.prog = true := by kernel_rfl
set_option maxRecDepth 4000 in
theorem cells_rune : Try.prog.cellsOf 21 = 1 := by kernel_rfl
set_option maxRecDepth 4000 in
theorem cells_bool : Try.prog.cellsOf 4 = 1 := by kernel_rfl
set_option maxRecDepth 4000 in
theorem cells_str : Try.prog.cellsOf 9 = 1 := by kernel_rfl
set_option maxRecDepth 4000 in
theorem cells_prop : Try.prog.cellsOf 79 = 2 := by kernel_rfl
set_option maxRecDepth 4000 in
theorem cells_node : Try.prog.cellsOf 27 = 4 := by kernel_rfl
set_option maxRecDepth 4000 in
theorem cells_props : Try.prog.cellsOf 23 = 1 := by kernel_rfl
set_option maxRecDepth 4000 in
theorem cells_runes : Try.prog.cellsOf 24 = 1 := by kernel_rfl
set_option maxRecDepth 4000 in
theorem cells_nodes : Try.prog.cellsOf 25 = 1 := by kernel_rfl
set_option maxRecDepth 4000 in
theorem bytes_rune : Try.prog.bytesOf 21 = 4 := by kernel_rfl
set_option maxRecDepth 4000 in
theorem bytes_prop : Try.prog.bytesOf 79 = 32 := by kernel_rfl
set_option maxRecDepth 4000 in
theorem bytes_node : Try.prog.bytesOf 27 = 80 := by kernel_rfl
set_option maxRecDepth 4000 in
theorem fields_prop : Try.prog.underlying 79 = some (.struct (Try.prog.fieldsOf 79)) := by kernel_rfl
set_option maxRecDepth 4000 in
theorem fields_node : Try.prog.underlying 27 = some (.struct (Try.prog.fieldsOf 27)) := by kernel_rfl
set_option maxRecDepth 4000 in
theorem prop_0 : ((Try.prog.fieldsOf 79)[0]?).map (fun f => (f.type, f.offset)) = some (9, 0) := by kernel_rfl
set_option maxRecDepth 4000 in
theorem prop_1 : ((Try.prog.fieldsOf 79)[1]?).map (fun f => (f.type, f.offset)) = some (9, 1) := by kernel_rfl
set_option maxRecDepth 4000 in
theorem node_0 : ((Try.prog.fieldsOf 27)[0]?).map (fun f => (f.type, f.offset)) = some (4, 0) := by kernel_rfl
set_option maxRecDepth 4000 in
theorem node_1 : ((Try.prog.fieldsOf 27)[1]?).map (fun f => (f.type, f.offset)) = some (23, 1) := by kernel_rfl
set_option maxRecDepth 4000 in
theorem node_2 : ((Try.prog.fieldsOf 27)[2]?).map (fun f => (f.type, f.offset)) = some (24, 2) := by kernel_rfl
set_option maxRecDepth 4000 in
theorem node_3 : ((Try.prog.fieldsOf 27)[3]?).map (fun f => (f.type, f.offset)) = some (25, 3) := by kernel_rfl
set_option maxRecDepth 4000 in
theorem size_prop : (Try.prog.fieldsOf 79).size = 2 := by kernel_rfl
set_option maxRecDepth 4000 in
theorem size_node : (Try.prog.fieldsOf 27).size = 4 := by kernel_rfl
set_option maxRecDepth 4000 in
theorem node_types : (Try.prog.fieldsOf 27).toList.map (·.type) = [4, 23, 24, 25] := by kernel_rfl

set_option maxRecDepth 4000 in
theorem cell_spot {w : World} {a : Addr} {v : Value} (h : w.cell? a = some v) : a.block < w.heap.size ∧ a.spot = none := by
  unfold World.cell? at h
  cases hb : w.heap[a.block]? with
  | none => rw [hb] at h; cases h
  | some o =>
    rw [hb] at h
    refine ⟨(Array.getElem?_eq_some_iff.1 hb).1, ?_⟩
    cases o <;> simp at h
    exact h.1

/-! What the bound gives. -/
section
variable {H : Type}
set_option maxRecDepth 4000 in
theorem bulk_one (d : DataW H) : 1 ≤ Rows.uptoBulk d := by
  cases d with
  | lit l => cases l <;> simp [Rows.uptoBulk]
  | nil => simp [Rows.uptoBulk]
  | ptr d => simp [Rows.uptoBulk]
  | slice elems spare => simp [Rows.uptoBulk]
  | agg parts => simp [Rows.uptoBulk]
  | iface t d => simp [Rows.uptoBulk]
  | map entries => simp [Rows.uptoBulk]
  | held h => simp [Rows.uptoBulk]
set_option maxRecDepth 4000 in
theorem bulk_length (l : List (DataW H)) : l.length ≤ Rows.uptoBulkAll l := by
  induction l with
  | nil => simp [Rows.uptoBulkAll]
  | cons x r ih => have := bulk_one x; simp only [Rows.uptoBulkAll, List.length_cons]; omega
set_option maxRecDepth 4000 in
theorem bulk_kids (q : Nat → NT) : ∀ (l : List (DataW H)) (s : Nat), (∀ i d, l[i]? = some d → sizeT (q (s + i)) ≤ Rows.uptoBulk d) → sizeK ((List.range' s l.length).map q) ≤ Rows.uptoBulkAll l
  | [], s, _ => by simp [sizeK]
  | d :: r, s, h => by
    have h0 := h 0 d rfl
    have h1 := bulk_kids q r (s + 1) (fun i d hd => by have := h (i + 1) d hd; rwa [show s + (i + 1) = s + 1 + i by omega] at this)
    simp only [List.length_cons, List.range'_succ, List.map_cons, sizeK, Rows.uptoBulkAll]
    have h0' : sizeT (q s) ≤ Rows.uptoBulk d := h0
    omega
set_option maxRecDepth 4000 in
theorem weights_all {P : Program} {e : TypeId} : ∀ {l : List (DataW H)} {d : DataW H}, d ∈ l → ∀ n ∈ d.weights P e, n ∈ DataW.weightsAll P e l
  | [], _, h, _, _ => by cases h
  | x :: r, d, h, n, hn => by
    simp only [DataW.weightsAll, List.mem_append]
    rcases List.mem_cons.1 h with rfl | h
    · exact .inl hn
    · exact .inr (weights_all h n hn)
end

section
variable {H : Type} {enc : TypeId × Value → H} {W : World} {base : Nat} {sp : Nat → Bool} {held : Bool}

theorem open_runes {fuel : Nat} {cs : List Value} {x : DataW H × List MemPlace} (h : DataW.trod enc Try.prog W base sp held fuel 24 cs = some x) (hw : ∀ n ∈ x.1.weights Try.prog 24, n ≤ reachBytes) :
    ∃ (A : Option Addr) (l : List Int) (c : Nat), cs = [.slice A l.length c] ∧ l.length ≤ 35184372088832 ∧ l.length ≤ c ∧ VL W W.heap.size A (rv l) ∧ l.length + 1 ≤ Rows.uptoBulk x.1 := by
  rcases open_ints Try.underlying24 Try.underlying21 cells_rune h with ⟨hcs, rfl⟩ | ⟨a, len, cap, zs, hcs, _, hl, hm, hz, rfl, hc, _⟩
  · exact ⟨none, [], 0, hcs, by decide, Nat.le_refl _, VL.nil _ _ _, by simp [Rows.uptoBulk]⟩
  · have hzl : len ≤ zs.length := by rw [hz]; split <;> omega
    have hlen : (zs.take len).length = len := by simp; omega
    have hb := hw ((lits .i32 (zs.take len) (H := H)).length * 4 + (lits .i32 (zs.drop len) (H := H)).length * 4) (by simp [DataW.weights, Try.underlying24, bytes_rune, Nat.add_mul])
    have hl1 : (lits (H := H) .i32 (zs.take len)).length = len := by simp [lits]; omega
    refine ⟨some a, zs.take len, cap, by rw [hlen]; exact hcs, by rw [hlen]; rw [hl1] at hb; unfold reachBytes at hb; omega, by rw [hlen]; exact hl, fun hn => ?_, ?_⟩
    · have h0 : 0 < len := by
        rcases Nat.eq_zero_or_pos len with h | h
        · subst h; simp [rv] at hn
        · exact h
      have hs := cell_spot (hc 0 (by omega))
      simp only [Addr.add, if_true] at hs
      obtain ⟨b, o, s⟩ := a
      obtain rfl : s = none := hs.2
      refine ⟨b, o, rfl, hs.1, fun k u hk => ?_⟩
      have hkl : k < len := by have := (List.getElem?_eq_some_iff.1 hk).1; rw [rv_len, hlen] at this; exact this
      have h1 := hc k (by omega)
      rw [add_plain] at h1
      rw [h1, ← hk, rv_at _ k (by omega), atL_eq _ k (by omega)]
      simp [List.getD, show k < zs.length by omega]
    · rw [hlen]
      have := bulk_length (lits (H := H) .i32 (zs.take len))
      rw [hl1] at this
      simp only [Rows.uptoBulk]
      omega

set_option maxRecDepth 4000 in
theorem open_props {fuel : Nat} {cs : List Value} {x : DataW H × List MemPlace} (h : DataW.trod enc Try.prog W base sp held fuel 23 cs = some x) (hw : ∀ n ∈ x.1.weights Try.prog 23, n ≤ reachBytes) :
    ∃ (A : Option Addr) (l : List Pr) (c : Nat), cs = [.slice A l.length c] ∧ Wide l ∧ l.length ≤ 4398046511104 ∧ l.length ≤ c ∧ PL W W.heap.size A l := by
  rcases DataW.trod_slice Try.underlying23 h with ⟨hcs, _⟩ | ⟨a, len, cap, elems, rest, n, _, hcs, rfl, _, hl, hm, hlen, hel, _, _⟩
  · exact ⟨none, [], 0, hcs, ⟨by decide, by simp⟩, by decide, Nat.le_refl _, PL.nil _ _ _⟩
  · have key : ∀ i, i < len → ∃ q : Pr, q.1.size ≤ maxLen ∧ q.2.size ≤ maxLen ∧ W.cell? (a.add (i * 2)) = some (.string q.1) ∧ W.cell? (a.add (i * 2 + 1)) = some (.string q.2) := by
      intro i him
      have h1 := hel i him
      rw [cells_prop, List.getElem?_eq_getElem (by omega)] at h1
      obtain ⟨cs', hc, ht⟩ := Option.bind_eq_some_iff.1 h1
      obtain ⟨ys, m, _, _, hcl, hyl, hf⟩ := DataW.trod_struct fields_prop ht
      rw [cells_prop] at hcl
      rw [size_prop] at hyl
      obtain ⟨_, _, hat⟩ := World.cells?_some hc
      obtain ⟨f0, e0, g0⟩ := Option.map_eq_some_iff.1 prop_0
      obtain ⟨f1, e1, g1⟩ := Option.map_eq_some_iff.1 prop_1
      have r0 := hf 0 f0 e0
      have r1 := hf 1 f1 e1
      simp only [Prod.mk.injEq] at g0 g1
      rw [g0.1, g0.2, cells_str] at r0
      rw [g1.1, g1.2, cells_str] at r1
      match cs', hcl, ys, hyl with
      | [c0, c1], _, [y0, y1], _ =>
        simp only [List.drop_zero, List.take_succ_cons, List.take_zero, List.drop_succ_cons, List.getElem?_cons_zero, List.getElem?_cons_succ] at r0 r1
        have a0 := hat (i := 0) (by omega)
        have a1 := hat (i := 1) (by omega)
        rw [add_add] at a0 a1
        simp only [List.getElem?_cons_zero, List.getElem?_cons_succ, Nat.add_zero] at a0 a1
        obtain ⟨s0, e0', _, w0⟩ := DataW.trod_string Try.underlying9 r0
        obtain ⟨s1, e1', _, w1⟩ := DataW.trod_string Try.underlying9 r1
        simp only [List.cons.injEq, and_true] at e0' e1'
        subst e0' e1'
        exact ⟨(s0, s1), w0, w1, a0, a1⟩
    obtain ⟨q, hq⟩ := choose_lt key
    have hlen2 : ((List.range len).map q).length = len := by simp
    have hget : ∀ k, k < len → prAt ((List.range len).map q) k = q k := fun k hk => by
      rw [prAt_eq _ k (by simpa using hk)]; simp
    have hb := hw (elems.length * 32 + rest.length * 32) (by simp [DataW.weights, Try.underlying23, bytes_prop, Nat.add_mul])
    refine ⟨some a, (List.range len).map q, cap, by rw [hlen2]; exact hcs, ⟨by rw [hlen2]; unfold maxLen at hm; omega, fun p hp => ?_⟩, by rw [hlen2]; unfold reachBytes at hb; omega, by rw [hlen2]; exact hl, fun hn => ?_⟩
    · obtain ⟨k, hk, rfl⟩ := List.mem_map.1 hp
      have := hq k (List.mem_range.1 hk)
      unfold maxLen at this
      omega
    · have h0 : 0 < len := by
        rcases Nat.eq_zero_or_pos len with h | h
        · subst h; exact absurd rfl hn
        · exact h
      have hs := cell_spot (hq 0 h0).2.2.1
      simp only [Nat.zero_mul, Addr.add, if_true] at hs
      obtain ⟨b, o, s⟩ := a
      obtain rfl : s = none := hs.2
      refine ⟨b, o, rfl, hs.1, fun k hk => ?_⟩
      rw [hlen2] at hk
      rw [hget k hk]
      have h1 := (hq k hk).2.2.1
      have h2 := (hq k hk).2.2.2
      rw [add_plain] at h1 h2
      exact ⟨h1, h2⟩

set_option maxRecDepth 4000 in
theorem NodeAt.deeper {w : World} {B : Nat} : ∀ {d : Nat} {v : Value} {n : NT}, NodeAt d w B v n → NodeAt (d + 1) w B v n
  | 0, _, _, h => h.elim
  | d + 1, _, _, ⟨PA, pc, TA, tc, KA, kc, e, hp, ht, hf, hks⟩ => ⟨PA, pc, TA, tc, KA, kc, e, hp, ht, hf, fun k m hm => by
      obtain ⟨b, o, u, e1, hb, hn, hc⟩ := hks k m hm
      exact ⟨b, o, u, e1, hb, hn.deeper, hc⟩⟩

instance : Inhabited NT := ⟨.mk false [] [] []⟩

set_option maxRecDepth 4000 in
/-- A node that came in: its four cells; how great it is. -/
theorem open_node : ∀ (fuel : Nat) (cs : List Value) (x : DataW H × List MemPlace), DataW.trod enc Try.prog W base sp held fuel 27 cs = some x → (∀ n ∈ x.1.weights Try.prog 27, n ≤ reachBytes) →
    ∃ c0 c1 c2 c3 n, cs = [c0, c1, c2, c3] ∧ NodeAt fuel W W.heap.size (.agg #[c0, c1, c2, c3]) n ∧ sizeT n ≤ Rows.uptoBulk x.1 ∧ TightT n := by
  intro fuel
  induction fuel using Nat.strongRecOn with
  | ind fuel ih =>
    intro cs x h hw
    obtain ⟨xs, f1, rfl, rfl, hcl, hxl, hf⟩ := DataW.trod_struct fields_node h
    rw [cells_node] at hcl
    rw [size_node] at hxl
    obtain ⟨t0, e0, g0⟩ := Option.map_eq_some_iff.1 node_0
    obtain ⟨t1, e1, g1⟩ := Option.map_eq_some_iff.1 node_1
    obtain ⟨t2, e2, g2⟩ := Option.map_eq_some_iff.1 node_2
    obtain ⟨t3, e3, g3⟩ := Option.map_eq_some_iff.1 node_3
    simp only [Prod.mk.injEq] at g0 g1 g2 g3
    have r0 := hf 0 t0 e0
    have r1 := hf 1 t1 e1
    have r2 := hf 2 t2 e2
    have r3 := hf 3 t3 e3
    rw [g0.1, g0.2, cells_bool] at r0
    rw [g1.1, g1.2, cells_props] at r1
    rw [g2.1, g2.2, cells_runes] at r2
    rw [g3.1, g3.2, cells_nodes] at r3
    match cs, hcl, xs, hxl with
    | [c0, c1, c2, c3], _, [x0, x1, x2, x3], _ =>
      simp only [List.drop_zero, List.take_succ_cons, List.take_zero, List.drop_succ_cons, List.getElem?_cons_zero, List.getElem?_cons_succ] at r0 r1 r2 r3
      have hwp : ∀ n ∈ DataW.weightsEach Try.prog [4, 23, 24, 25] [x0.1, x1.1, x2.1, x3.1], n ≤ reachBytes := fun n hn => hw n (by
        simp only [DataW.weights, fields_node, node_types, List.map_cons, List.map_nil]; exact hn)
      obtain ⟨lf, k0, _⟩ := DataW.trod_bool Try.underlying4 r0
      obtain ⟨PA, ps, pc, k1, hWd, hpl, hpc, hP⟩ := open_props r1 (fun n hn => hwp n (DataW.weights_mem_each (j := 1) rfl rfl n hn))
      obtain ⟨TA, tx, tc, k2, htl, htc, hT, hTb⟩ := open_runes r2 (fun n hn => hwp n (DataW.weights_mem_each (j := 2) rfl rfl n hn))
      simp only [List.cons.injEq, and_true] at k0 k1 k2
      subst k0 k1 k2
      have hwk := fun n hn => hwp n (DataW.weights_mem_each (j := 3) rfl rfl n hn)
      have hk : ∃ (KA : Option Addr) (ks : List NT) (kc : Nat), c3 = .slice KA ks.length kc ∧ ks.length ≤ 1759218604390 ∧ Kids f1 W W.heap.size KA ks ∧ sizeK ks + 1 ≤ Rows.uptoBulk x3.1 ∧ ks.length ≤ kc ∧ TightK ks := by
        rcases DataW.trod_slice Try.underlying25 r3 with ⟨hcs, rfl⟩ | ⟨a, len, cap, elems, rest, f2, rfl, hcs, rfl, _, hl, hm, hlen, hel, _, _⟩
        · simp only [List.cons.injEq, and_true] at hcs
          exact ⟨none, [], 0, hcs, by decide, fun k m hm => by simp at hm, by simp [sizeK, Rows.uptoBulk], Nat.le_refl _, trivial⟩
        · have key : ∀ i, i < len → ∃ m : NT, (∃ u, NodeAt f2 W W.heap.size u m ∧ ∃ c0 c1 c2 c3, u = .agg #[c0, c1, c2, c3] ∧ W.cell? (a.add (i * 4)) = some c0 ∧ W.cell? (a.add (i * 4 + 1)) = some c1 ∧ W.cell? (a.add (i * 4 + 2)) = some c2 ∧ W.cell? (a.add (i * 4 + 3)) = some c3) ∧ (∀ d, (elems.map (·.1))[i]? = some d → sizeT m ≤ Rows.uptoBulk d) ∧ TightT m := by
            intro i him
            have h1 := hel i him
            have him' : i < elems.length := by omega
            rw [cells_node, List.getElem?_eq_getElem him'] at h1
            obtain ⟨cs', hc, ht⟩ := Option.bind_eq_some_iff.1 h1
            obtain ⟨b0, b1, b2, b3, m, rfl, hn, hs, htg⟩ := ih f2 (by omega) cs' _ ht (fun n hn => hwk n (by
              simp only [DataW.weights, Try.underlying25, List.mem_cons, List.mem_append]
              exact .inr (.inl (weights_all (List.mem_map.2 ⟨_, List.getElem_mem him', rfl⟩) n hn))))
            obtain ⟨_, _, hat⟩ := World.cells?_some hc
            have a0 := hat (i := 0) (by omega)
            have a1 := hat (i := 1) (by omega)
            have a2 := hat (i := 2) (by omega)
            have a3 := hat (i := 3) (by omega)
            rw [add_add] at a0 a1 a2 a3
            simp only [List.getElem?_cons_zero, List.getElem?_cons_succ, Nat.add_zero] at a0 a1 a2 a3
            refine ⟨m, ⟨_, hn, b0, b1, b2, b3, rfl, a0, a1, a2, a3⟩, fun d hd => ?_, htg⟩
            rw [List.getElem?_map, List.getElem?_eq_getElem him'] at hd
            simp only [Option.map_some, Option.some.injEq] at hd
            rw [← hd]; exact hs
          obtain ⟨q, hq⟩ := choose_lt key
          have hlen2 : ((List.range len).map q).length = len := by simp
          have hb := hwk (elems.length * 80 + rest.length * 80) (by simp [DataW.weights, Try.underlying25, bytes_node, Nat.add_mul])
          refine ⟨some a, (List.range len).map q, cap, by rw [hlen2]; simpa using hcs, by rw [hlen2]; unfold reachBytes at hb; omega, fun k m hm => ?_, ?_, by rw [hlen2]; exact hl, tightK_of fun k m hm => ?_⟩
          · have hkl : k < len := by have := (List.getElem?_eq_some_iff.1 hm).1; rwa [hlen2] at this
            rw [List.getElem?_map, List.getElem?_range hkl] at hm
            simp only [Option.map_some, Option.some.injEq] at hm
            subst hm
            obtain ⟨⟨u, hn, d0, d1, d2, d3, eu, a0, a1, a2, a3⟩, _, _⟩ := hq k hkl
            obtain ⟨⟨_, _, _, _, _, _, _, z0, _⟩, _, _⟩ := hq 0 (by omega)
            have hab := cell_spot z0
            simp only [Nat.zero_mul, Addr.add, if_true] at hab
            obtain ⟨b, o, s⟩ := a
            obtain rfl : s = none := hab.2
            rw [add_plain] at a0 a1 a2 a3
            exact ⟨b, o, u, rfl, hab.1, hn.deeper, d0, d1, d2, d3, eu, a0, a1, a2, a3⟩
          · have hbk := bulk_kids q (elems.map (·.1)) 0 (fun i d hd => by
              have hil : i < len := by have := (List.getElem?_eq_some_iff.1 hd).1; simp at this; omega
              rw [Nat.zero_add]
              exact (hq i hil).2.1 d hd)
            rw [List.length_map, hlen, ← List.range_eq_range'] at hbk
            simp only [Rows.uptoBulk]
            omega
          · have hkl : k < len := by have := (List.getElem?_eq_some_iff.1 hm).1; rwa [hlen2] at this
            rw [List.getElem?_map, List.getElem?_range hkl] at hm
            simp only [Option.map_some, Option.some.injEq] at hm
            subst hm
            exact (hq k hkl).2.2
      obtain ⟨KA, ks, kc, rfl, hkl, hK, hKb, hkc, htk⟩ := hk
      refine ⟨_, _, _, _, .mk lf ps tx ks, rfl, NodeAt.shut rfl rfl rfl hP hT ⟨hWd, hpl, htl, by omega, hpc, htc, hkc⟩ hK, ?_, ⟨hkl, htk⟩⟩
      simp only [sizeT, Rows.uptoBulk, Rows.uptoBulkAll, List.map_cons, List.map_nil]
      omega

set_option maxRecDepth 4000 in
/-- A tree that came in. -/
theorem open_tree {r : Reach} {b0 : Nat} {v : Value} {d : DataW H} {p : List MemPlace} (hv : Value.okWide Try.prog W r b0 27 v) (h : DataW.Trod enc Try.prog W base sp held 27 v d p) (hw : ∀ n ∈ d.weights Try.prog 27, n ≤ reachBytes) :
    ∃ f n, NodeAt f W W.heap.size v n ∧ sizeT n ≤ Rows.uptoBulk d ∧ TightT n := by
  obtain ⟨fuel, hf⟩ := h
  obtain ⟨c0, c1, c2, c3, n, hcs, hn, hs, ht⟩ := open_node fuel _ _ hf hw
  obtain ⟨cs, rfl, hcz⟩ := okWide_struct fields_node hv
  have e : cs = #[c0, c1, c2, c3] := by
    apply Array.toList_inj.1
    simpa [Value.cells] using hcs
  subst e
  exact ⟨fuel, n, hn, hs, ht⟩

end

end Go.Proofs.Ytdjajpookmmafaa

namespace Go.Proofs.Ytdjajpookmmafaa
open Go.ChangeShapes Go.WideShapes Go.RowKit Go.Deep

theorem cells_int : Try.prog.cellsOf 3 = 1 := by kernel_rfl
set_option maxRecDepth 4000 in
theorem cell_lt {w : World} {a : Addr} {v : Value} (h : w.cell? a = some v) : a.block < w.heap.size ∧ a.spot = none := by
  unfold World.cell? at h
  cases hb : w.heap[a.block]? with
  | none => rw [hb] at h; cases h
  | some o =>
    rw [hb] at h
    refine ⟨(Array.getElem?_eq_some_iff.1 hb).1, ?_⟩
    cases o <;> simp at h
    exact h.1
def Ints (l : List Int) : Prop := ∀ k, k < l.length → -9223372036854775808 ≤ iAt l k ∧ iAt l k ≤ 9223372036854775807
set_option maxRecDepth 4000 in
theorem wf_ints {l : List Int} (h : ∀ n ∈ l, (Lit.int .i64 n).wf = true) : Ints l := by
  intro k hk
  have := h (iAt l k) (by rw [iAt_eq l k hk]; exact List.getElem_mem hk)
  have e1 : IntKind.i64.min = -9223372036854775808 := by decide
  have e2 : IntKind.i64.max = 9223372036854775807 := by decide
  simp [Lit.wf, e1, e2] at this
  omega

set_option maxRecDepth 4000 in
/-- A list of numbers that came in. -/
theorem open_path {H : Type} {enc : TypeId × Value → H} {W : World} {r : Reach} {b0 base : Nat} {held : Bool} {v : Value} {d : DataW H} {p : List MemPlace} (hv : Value.okWide Try.prog W r b0 22 v)
    (h : DataW.Trod enc Try.prog W base (fun _ => true) held 22 v d p) : ∃ (A : Option Addr) (l : List Int) (c : Nat), v = .slice A l.length c ∧ l.length ≤ 9223372036854775807 ∧ l.length ≤ c ∧ Ints l ∧ IL W W.heap.size A l := by
  obtain ⟨a0, len0, cap0, rfl⟩ := okWide_slice Try.underlying22 hv
  obtain ⟨fuel, hf⟩ := h
  rcases open_ints Try.underlying22 Try.underlying3 cells_int hf with ⟨hcs, _⟩ | ⟨a, len, cap, zs, hcs, _, hl, hm, hz, _, hc, hw⟩
  · simp [Value.cells] at hcs
    obtain ⟨rfl, rfl, rfl⟩ := hcs
    exact ⟨none, [], 0, rfl, by decide, Nat.le_refl _, fun k hk => absurd hk (Nat.not_lt_zero _), IL.nil _ _ _⟩
  · simp [Value.cells] at hcs
    obtain ⟨rfl, rfl, rfl⟩ := hcs
    simp only [if_true] at hz
    have hlen : (zs.take len0).length = len0 := by simp; omega
    refine ⟨some a, zs.take len0, cap0, by rw [hlen], by rw [hlen]; unfold maxLen at hm; omega, by rw [hlen]; exact hl, wf_ints fun n hn => hw n (List.mem_of_mem_take hn), fun hn => ?_⟩
    have h0 : 0 < len0 := by
      rcases Nat.eq_zero_or_pos len0 with h | h
      · subst h; simp at hn
      · exact h
    have hs := cell_lt (hc 0 (by omega))
    simp only [Addr.add, if_true] at hs
    obtain ⟨b, o, s⟩ := a
    obtain rfl : s = none := hs.2
    refine ⟨b, o, rfl, hs.1, fun k hk => ?_⟩
    rw [hlen] at hk
    have h1 := hc k (by omega)
    rw [add_plain] at h1
    rw [h1, iAt_eq _ k (by omega)]
    simp [List.getD, show k < zs.length by omega]

end Go.Proofs.Ytdjajpookmmafaa
