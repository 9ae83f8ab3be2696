/- A tree whose blocks meet a condition, none of its cells frozen; fresh lists of properties and of runes. -/
import Derived.Test.YtdjajpookmmafaaNLefts
import Derived.Deep.AppendLies
import Derived.Deep.RegionHeld3
namespace Go.Proofs.Ytdjajpookmmafaa
open Go.RowKit
open Go.WideShapes (add_plain)

/-- A cell that holds u, and may be written. -/
def Free (w : World) (b q : Nat) (u : Value) : Prop := w.cell? ⟨b, q, none⟩ = some u ∧ w.frozen? ⟨b, q, none⟩ = false
/-- The slice at A holds the values xs, in a block that meets P. -/
def VP (P : Nat → Prop) (w : World) (A : Option Addr) (xs : List Value) : Prop := ∀ k u, xs[k]? = some u → ∃ b o, A = some ⟨b, o, none⟩ ∧ P b ∧ Free w b (o + k) u
/-- The cells of a list of properties. -/
def pv (l : List Pr) : List Value := l.flatMap fun p => [.string p.1, .string p.2]
/-- The value v is the node n, of depth at most d; its blocks meet P. -/
def TreeP (P : Nat → Prop) : Nat → World → Value → NT → Prop
  | 0, _, _, _ => False
  | d + 1, w, v, n => ∃ PA pc TA tc KA kc, v = .agg #[.bool n.lf, .slice PA n.ps.length pc, .slice TA n.tx.length tc, .slice KA n.ks.length kc] ∧ VP P w PA (pv n.ps) ∧ VP P w TA (rv n.tx) ∧ FitN n.ps n.tx.length n.ks.length pc tc kc ∧
      ∀ k m, n.ks[k]? = some m → ∃ b o u, KA = some ⟨b, o, none⟩ ∧ P b ∧ TreeP P d w u m ∧ Cells4 w b (o + k * 4) u ∧ w.frozen? ⟨b, o + k * 4, none⟩ = false

set_option maxRecDepth 4000 in
theorem VP.keep {P Q : Nat → Prop} {w w' : World} {A : Option Addr} {xs : List Value} (h : VP P w A xs) (hPQ : ∀ b, P b → Q b) (hk : ∀ p : Addr, P p.block → w'.cell? p = w.cell? p ∧ w'.frozen? p = w.frozen? p) : VP Q w' A xs := fun k u hu => by
  obtain ⟨b, o, e, hb, h1, h2⟩ := h k u hu
  exact ⟨b, o, e, hPQ b hb, (hk ⟨b, o + k, none⟩ hb).1.trans h1, (hk ⟨b, o + k, none⟩ hb).2.trans h2⟩
set_option maxRecDepth 4000 in
theorem TreeP.keep {P Q : Nat → Prop} {w w' : World} (hPQ : ∀ b, P b → Q b) (hk : ∀ p : Addr, P p.block → w'.cell? p = w.cell? p ∧ w'.frozen? p = w.frozen? p) : ∀ {d : Nat} {v : Value} {n : NT}, TreeP P d w v n → TreeP Q d w' v n
  | 0, _, _, h => h
  | d + 1, _, _, ⟨PA, pc, TA, tc, KA, kc, e, hp, ht, hf, hks⟩ => ⟨PA, pc, TA, tc, KA, kc, e, hp.keep hPQ hk, ht.keep hPQ hk, hf, fun k m hm => by
      obtain ⟨b, o, u, e1, hb, hn, hc, hz⟩ := hks k m hm
      exact ⟨b, o, u, e1, hPQ b hb, hn.keep hPQ hk, hc.keep fun p hp => (hk p (by rw [hp]; exact hb)).1, (hk ⟨b, o + k * 4, none⟩ hb).2.trans hz⟩⟩
set_option maxRecDepth 4000 in
theorem pv_cons (p : Pr) (l : List Pr) : pv (p :: l) = .string p.1 :: .string p.2 :: pv l := rfl
set_option maxRecDepth 4000 in
theorem pv_len (l : List Pr) : (pv l).length = l.length * 2 := by
  induction l with
  | nil => rfl
  | cons p r ih => rw [pv_cons]; simp only [List.length_cons, ih]; omega
set_option maxRecDepth 4000 in
theorem pv_at (l : List Pr) : ∀ (k : Nat), k < l.length → (pv l)[k * 2]? = some (.string (prAt l k).1) ∧ (pv l)[k * 2 + 1]? = some (.string (prAt l k).2) := by
  induction l with
  | nil => intro k hk; simp at hk
  | cons p r ih =>
    intro k hk
    rw [pv_cons]
    cases k with
    | zero => exact ⟨rfl, rfl⟩
    | succ k =>
      have := ih k (by simpa using hk)
      rw [show (k + 1) * 2 = k * 2 + 1 + 1 by omega, show k * 2 + 1 + 1 + 1 = k * 2 + 1 + 1 + 1 from rfl]
      simp only [List.getElem?_cons_succ]
      exact this
set_option maxRecDepth 4000 in
theorem pv_one (l : List Pr) : ∀ u ∈ pv l, u.oneCell' = true := by
  intro u hu
  obtain ⟨p, _, hp⟩ := List.mem_flatMap.1 hu
  simp only [List.mem_cons, List.not_mem_nil, or_false] at hp
  rcases hp with rfl | rfl <;> rfl
set_option maxRecDepth 4000 in
theorem VP.pl {P : Nat → Prop} {w : World} {B : Nat} {A : Option Addr} {l : List Pr} (h : VP P w A (pv l)) (hP : ∀ b, P b → b < B) : PL w B A l := fun hn => by
  have hl : 0 < l.length := List.length_pos_iff.2 hn
  obtain ⟨b, o, e, hb, h0, _⟩ := h (0 * 2) _ (pv_at l 0 hl).1
  refine ⟨b, o, e, hP b hb, fun k hk => ?_⟩
  obtain ⟨b1, o1, e1, _, h1, _⟩ := h (k * 2) _ (pv_at l k hk).1
  obtain ⟨b2, o2, e2, _, h2, _⟩ := h (k * 2 + 1) _ (pv_at l k hk).2
  rw [e] at e1 e2
  injection e1 with e1
  injection e1 with a1 a2
  injection e2 with e2
  injection e2 with a3 a4
  subst a1 a2 a3 a4
  exact ⟨h1, by rw [← Nat.add_assoc] at h2; exact h2⟩
set_option maxRecDepth 4000 in
theorem VP.vl {P : Nat → Prop} {w : World} {B : Nat} {A : Option Addr} {xs : List Value} (h : VP P w A xs) (hP : ∀ b, P b → b < B) : VL w B A xs := fun hn => by
  cases xs with
  | nil => exact absurd rfl hn
  | cons x r =>
    obtain ⟨b, o, e, hb, _, _⟩ := h 0 x rfl
    refine ⟨b, o, e, hP b hb, fun k u hk => ?_⟩
    obtain ⟨b1, o1, e1, _, h1, _⟩ := h k u hk
    rw [e] at e1
    injection e1 with e1
    injection e1 with a1 a2
    subst a1 a2
    exact h1
set_option maxRecDepth 4000 in
theorem TreeP.at_ {P : Nat → Prop} {w : World} {B : Nat} (hP : ∀ b, P b → b < B) : ∀ {d : Nat} {v : Value} {n : NT}, TreeP P d w v n → NodeAt d w B v n
  | 0, _, _, h => h
  | d + 1, _, _, ⟨PA, pc, TA, tc, KA, kc, e, hp, ht, hf, hks⟩ => ⟨PA, pc, TA, tc, KA, kc, e, hp.pl hP, ht.vl hP, hf, fun k m hm => by
      obtain ⟨b, o, u, e1, hb, hn, hc, _⟩ := hks k m hm
      exact ⟨b, o, u, e1, hP b hb, hn.at_ hP, hc⟩⟩

set_option maxRecDepth 4000 in
theorem PL.vl {w : World} {B : Nat} {A : Option Addr} {l : List Pr} (h : PL w B A l) : VL w B A (pv l) := fun hn => by
  obtain ⟨b, o, e, hb, hc⟩ := h (by rintro rfl; exact hn rfl)
  refine ⟨b, o, e, hb, fun k u hu => ?_⟩
  have hk : k < (pv l).length := (List.getElem?_eq_some_iff.1 hu).1
  rw [pv_len] at hk
  obtain ⟨q, hq⟩ : ∃ q, k = q * 2 ∨ k = q * 2 + 1 := ⟨k / 2, by omega⟩
  rcases hq with rfl | rfl
  · rw [(pv_at l q (by omega)).1] at hu
    injection hu with hu
    rw [← hu]; exact (hc q (by omega)).1
  · rw [(pv_at l q (by omega)).2] at hu
    injection hu with hu
    rw [← hu, ← Nat.add_assoc]; exact (hc q (by omega)).2

/-- What the table of types says of an element of so many cells. -/
structure ElemG (ts te : TypeId) (size by_ : Nat) : Prop where
  under : Try.prog.underlying ts = some (.slice te)
  info : ∃ i z, Try.prog.info? te = some i ∧ i.zero = some z ∧ i.size = size ∧ i.bytes = by_ ∧ z.cells.size = size
  pos : 0 < size
set_option maxRecDepth 4000 in
theorem propInfo : (Try.prog.info? 79).map (fun i => (i.zero, i.size, i.bytes)) = some (some (.agg #[.string ByteArray.empty, .string ByteArray.empty]), 2, 32) := by kernel_rfl
set_option maxRecDepth 4000 in
theorem nodeInfo : (Try.prog.info? 27).map (fun i => (i.zero, i.size, i.bytes)) = some (some (.agg #[.bool false, .slice none 0 0, .slice none 0 0, .slice none 0 0]), 4, 80) := by kernel_rfl
set_option maxRecDepth 4000 in
theorem propG : ElemG 23 79 2 32 := ⟨Try.underlying23, by
  obtain ⟨i0, hi, hz0, hz1, hz2⟩ := info_parts propInfo
  exact ⟨i0, _, hi, hz0, hz1, hz2, rfl⟩, by decide⟩
set_option maxRecDepth 4000 in
theorem runeG : ElemG 24 21 1 4 := ⟨Try.underlying24, by
  obtain ⟨i0, hi, hz0, hz1, hz2⟩ := info_parts runeInfo
  exact ⟨i0, _, hi, hz0, hz1, hz2, rfl⟩, by decide⟩
set_option maxRecDepth 4000 in
theorem nodeG : ElemG 25 27 4 80 := ⟨Try.underlying25, by
  obtain ⟨i0, hi, hz0, hz1, hz2⟩ := info_parts nodeInfo
  exact ⟨i0, _, hi, hz0, hz1, hz2, rfl⟩, by decide⟩
set_option maxRecDepth 4000 in
theorem mul_cast {a b : Nat} (h : a * b ≤ 140737488355328) : (a : Int) * (b : Int) ≤ 281474976710656 := by
  have h1 : ((a * b : Nat) : Int) ≤ 140737488355328 := by omega
  rw [Int.natCast_mul] at h1
  omega
set_option maxRecDepth 4000 in
theorem run_mk_G {ts te : TypeId} {size by_ : Nat} (E : ElemG ts te size by_) (n : Nat) (hn : by_ * n ≤ 140737488355328) (h63 : n ≤ 9223372036854775807) : ∃ cs : Array Value, cs.size = n * size ∧ ∀ w : World, (Instr.makeSlice ts (.int .i64 0) (.int .i64 (n : Int))).run Try.prog w = .ok (.slice (some ⟨w.heap.size, 0, none⟩) 0 n) (w.alloc (.cells cs te)) := by
  obtain ⟨i0, z, hi, hz0, hz1, hz2, hz3⟩ := E.info
  refine ⟨madeCells z.cells (n * size), size_madeCells _ _, fun w => ?_⟩
  have h := run_make (P := Try.prog) w ts te i0 z E.under hi hz0 .i64 .i64 0 (n : Int) (by omega) (by omega) (by rw [hz2]; exact mul_cast hn) (by omega)
  rw [h, hz1]
  simp

/-- A fresh list: a new row that holds xs. -/
def Fresh (size : Nat) (n : Nat) (xs : List Value) (w : World) (e : Ending) (w' : World) : Prop :=
  ∃ g c, e = .returned (.slice (some ⟨g, 0, none⟩) n c) ∧ w.heap.size ≤ g ∧ g < w'.heap.size ∧ (∀ k u, xs[k]? = some u → Free w' g k u) ∧ Below w.heap.size w w' ∧ xs.length = n * size ∧ n ≤ c
set_option maxRecDepth 4000 in
theorem own_fresh {t : TypeId} {size n c : Nat} {g : Nat} {xs : List Value} {w' : World} {base : Nat} (h : w'.ownsRow base t size (.slice (some ⟨g, 0, none⟩) n c) n xs) : base ≤ g ∧ g < w'.heap.size ∧ (∀ k u, xs[k]? = some u → Free w' g k u) ∧ n ≤ c := by
  have hc := h.cells (g := g) rfl
  rcases h.2 with ⟨e, _⟩ | ⟨g', cap, cur, e, hb, hh, hnc, _⟩
  · simp at e
  · simp only [Value.slice.injEq, Option.some.injEq, Addr.mk.injEq, and_true, true_and] at e
    obtain ⟨rfl, e2⟩ := e
    refine ⟨hb, lt_of_block hh, fun k u hu => ⟨?_, by simp [World.frozen?, hh]⟩, by omega⟩
    have := hc k u hu
    rwa [add_plain, Nat.zero_add] at this

set_option maxRecDepth 4000 in
/-- A list's values appended to a row of the call's own that stands somewhere. -/
theorem wpList_append_G {ts te : TypeId} {size by_ : Nat} (E : ElemG ts te size by_) (W : World) {ops : Array Oper} {rest : List Oper} {o : Oper} {a : Act} {Q : Exit → Act → World → Prop} (hgd : o.guard = none) (s x : Operand)
    (ho : o.op = .call { callee := .builtin .append, args := #[s, x], argTypes := #[ts, ts] })
    (b : Nat) (v : Value) (n : Nat) (k : List Value) (hs : a.eval s = v) {g0 n0 c0 : Nat} (hO : W.ownsRow b te size v n k) (A : Option Addr) (m c B : Nat) (l : List Value) (hx : a.eval x = .slice A m c) (hn : l.length = m * size) (hp : VL W B A l) (h1 : ∀ u ∈ l, u.oneCell' = true)
    (h63 : n + m ≤ maxLen) (hby : (n + m) * by_ ≤ 140737488355328) (hb : b ≤ W.heap.size) (hv : v = .slice (some ⟨g0, 0, none⟩) n0 c0)
    (hK : ∀ g cap w', w'.ownsRow b te size (.slice (some ⟨g, 0, none⟩) (n + m) cap) (n + m) (k ++ l) → W.grownBy w' v.ownBlock → wpList Try.prog ops Q rest (a.put o.dst (.slice (some ⟨g, 0, none⟩) (n + m) cap)) w') :
    wpList Try.prog ops Q (o :: rest) a W := by
  obtain ⟨i0, z, hi, hz0, hz1, hz2, hz3⟩ := E.info
  have hsz := E.pos
  rcases A with _ | ad
  · have hl : l = [] := by
      rcases Classical.em (l = []) with h | h
      · exact h
      · obtain ⟨_, _, h, _⟩ := hp h; cases h
    subst hl
    have hm : m = 0 := by
      rcases Nat.eq_zero_or_pos m with h | h
      · exact h
      · have := Nat.mul_pos h hsz
        simp at hn; omega
    subst hm
    have hO2 := hO
    rcases hO.2 with ⟨e, _⟩ | ⟨g, cap, cur, e, _⟩
    · rw [hv] at e; cases e
    · subst e
      refine wpList_append_none hgd s x ts ho b te i0 size E.under hi _ n k hs hO2 c hx ?_
      have := hK g cap W (by simpa using hO2) (⟨rfl, rfl, rfl, Nat.le_refl _, fun _ _ _ => rfl⟩)
      simpa using this
  · refine wpList_append_own _ hgd s x ts ho b te i0 _ size by_ E.under hi hz0 hz1 hz2 hz3 hsz v n k hs hO ad m c l hx hn ?_ h1 h63 hby hb (fun v' w' h1 h2 h3 => ?_)
    · intro j u hj
      have hjl : j < l.length := (List.getElem?_eq_some_iff.1 hj).1
      obtain ⟨b', o', e, _, h⟩ := hp (by rintro rfl; simp at hjl)
      injection e with e
      subst e
      rw [add_plain, h j u hj]
    · rcases h1.2 with ⟨e, h0⟩ | ⟨g, cap, cur, e, _⟩
      · exact absurd (h3.1 e).1 (by rw [hv]; simp)
      · subst e
        exact hK g cap w' h1 h2

set_option maxRecDepth 4000 in
set_option maxHeartbeats 2000000 in
theorem freshp_any (A : Option Addr) (ps : List Pr) (c : Nat) (w : World) (hl : ps.length ≤ 4398046511104) (hp : PL w w.heap.size A ps) : Calls Try.prog 61 #[.slice A ps.length c] w (Fresh 2 ps.length (pv ps) w) := by
  obtain ⟨cs, hcs, hmk⟩ := run_mk_G propG ps.length (by omega) (by omega)
  have hv : VL w w.heap.size A (pv ps) := hp.vl
  have HV := hd hv
  have HCS := hd hcs
  clear hp hv hcs
  go_enter Try.func61, Try.ntmps61
  go_wp2_with (at_builtin; refine wpList_append_G propG _ rfl (.tmp 5) (.tmp 6) rfl w.heap.size (.slice (some ⟨w.heap.size, 0, none⟩) 0 ps.length) 0 [] rfl (World.ownsRow_made w cs ps.length (Nat.le_refl _) (by unfold maxLen; omega) HCS.out) A ps.length c w.heap.size (pv ps) rfl (by rw [pv_len] <;> omega) (HV.out.below ((Below.refl _ _).alloc (Nat.le_refl _) _)) (pv_one ps) (by unfold maxLen; omega) (by omega) (by simp) rfl ?_; intro g cap w1 ho1 hg1)
  go_ret
  have h1 := own_fresh (by rw [Nat.zero_add, List.nil_append] at ho1; exact ho1)
  exact ⟨g, cap, rfl, h1.1, h1.2.1, h1.2.2.1, ((Below.refl _ _).alloc (Nat.le_refl _) _).grown hg1 (by simp) (fun j hj => by simp [Value.ownBlock] at hj; omega), by rw [pv_len] <;> omega, h1.2.2.2⟩
set_option maxRecDepth 4000 in
set_option maxHeartbeats 2000000 in
theorem freshr_any (A : Option Addr) (ps : List Int) (c : Nat) (w : World) (hl : ps.length ≤ 35184372088832) (hp : VL w w.heap.size A (rv ps)) : Calls Try.prog 62 #[.slice A ps.length c] w (Fresh 1 ps.length (rv ps) w) := by
  obtain ⟨cs, hcs, hmk⟩ := run_mk_G runeG ps.length (by omega) (by omega)
  have hv : VL w w.heap.size A (rv ps) := hp
  have HV := hd hv
  have HCS := hd hcs
  clear hp hv hcs
  go_enter Try.func62, Try.ntmps62
  go_wp2_with (at_builtin; refine wpList_append_G runeG _ rfl (.tmp 5) (.tmp 6) rfl w.heap.size (.slice (some ⟨w.heap.size, 0, none⟩) 0 ps.length) 0 [] rfl (World.ownsRow_made w cs ps.length (Nat.le_refl _) (by unfold maxLen; omega) HCS.out) A ps.length c w.heap.size (rv ps) rfl (by rw [rv_len] <;> omega) (HV.out.below ((Below.refl _ _).alloc (Nat.le_refl _) _)) (rv_one ps) (by unfold maxLen; omega) (by omega) (by simp) rfl ?_; intro g cap w1 ho1 hg1)
  go_ret
  have h1 := own_fresh (by rw [Nat.zero_add, List.nil_append] at ho1; exact ho1)
  exact ⟨g, cap, rfl, h1.1, h1.2.1, h1.2.2.1, ((Below.refl _ _).alloc (Nat.le_refl _) _).grown hg1 (by simp) (fun j hj => by simp [Value.ownBlock] at hj; omega), by rw [rv_len] <;> omega, h1.2.2.2⟩

end Go.Proofs.Ytdjajpookmmafaa
