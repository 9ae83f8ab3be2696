/- Slices in memory: what a slice's cells hold, carried over whatever leaves old blocks as they were; rows of the call's own, of runes and of bytes. -/
import Derived.Test.YtdjajpookmmafaaProg
import Derived.Test.YtdjajpookmmafaaGText
import Derived.WalkKit
import Derived.WalkLawsBesides
import Derived.WalkSpells
import Derived.LoopTactic
import Derived.Outline
import Derived.Deep.Draws
import Derived.Deep.QuietTactic
import Derived.BigQuiet
import Derived.Below
import Derived.Laws.OwnMore
import Derived.Laws.MakeOwn
import Derived.Maps.AppendAt
import Derived.Deep.AppendLies
import Derived.RegionTactic
import Derived.OwnWalk
import Derived.WideShapes
import Derived.IntWalk
namespace Go.Proofs.Ytdjajpookmmafaa
open Go.RowKit
open Go.WideShapes (add_plain)

theorem hd {p : Prop} (h : p) : Hid p := h
set_option maxRecDepth 4000 in
theorem ret_bool {a b : Bool} (h : a = b) : Ending.returned (.bool a) = .returned (.bool b) := by rw [h]
set_option maxRecDepth 4000 in
theorem ret_int {k : IntKind} {a b : Int} (h : a = b) : Ending.returned (.int k a) = .returned (.int k b) := by rw [h]
set_option maxRecDepth 4000 in
theorem below_drewN {B : Nat} {a w : World} (h : Below B a w) (n : Nat) : Below B a (w.drewN n) := ⟨h.os, h.tape, h.output, h.size, h.block⟩
set_option maxRecDepth 4000 in
theorem one_more {p : Nat → Prop} {n : Nat} (h : Hid (∀ j, j < n → p j)) (hn : p n) : Hid (∀ j, j < n + 1 → p j) := fun j hj => by
  by_cases e : j = n
  · subst e; exact hn
  · exact h.out j (by omega)

/-- A call that only reads; one that answers v and leaves old memory. -/
def Quiet (v : Value) (w : World) (e : Ending) (w' : World) : Prop := e = .returned v ∧ ∃ k, w' = w.drewN k
def Still (v : Value) (w : World) (e : Ending) (w' : World) : Prop := e = .returned v ∧ Below w.heap.size w w'
def AllTrue (w : World) (e : Ending) (w' : World) : Prop := e = .returned (.bool true) ∧ Below w.heap.size w w'
set_option maxRecDepth 4000 in
theorem ret_quiet {v v' : Value} {w w' : World} (h : v' = v) (hw : ∃ k, w' = w.drewN k) : Quiet v w (.returned v') w' := ⟨by rw [h], hw⟩
set_option maxRecDepth 4000 in
theorem int_eq {k : IntKind} {a b : Int} (h : a = b) : Value.int k a = .int k b := by rw [h]
set_option maxRecDepth 4000 in
theorem bool_eq {a b : Bool} (h : a = b) : Value.bool a = .bool b := by rw [h]
set_option maxRecDepth 4000 in
theorem Quiet.still {v : Value} {w : World} {e : Ending} {w' : World} (h : Quiet v w e w') : Still v w e w' := by
  obtain ⟨he, k, rfl⟩ := h
  exact ⟨he, below_drewN (Below.refl _ _) _⟩
set_option maxRecDepth 4000 in
theorem calls_still {f : FuncId} {args : Array Value} {v : Value} {w : World} (h : Calls Try.prog f args w (Quiet v w)) : Calls Try.prog f args w (Still v w) := h.mono fun _ _ hq => hq.still
set_option maxRecDepth 4000 in
theorem quiet_in {f : FuncId} {args : Array Value} {v : Value} {w : World} {a n : Nat} (h : Calls Try.prog f args (w.drewN (a + n)) (Quiet v (w.drewN (a + n)))) :
    Calls Try.prog f args (w.drewN (a + n)) fun e w' => e = .returned v ∧ ∃ m, w' = w.drewN (a + m) :=
  h.mono fun _ _ ⟨he, m, hm⟩ => ⟨he, n + m, by rw [hm, World.drewN_drewN, Nat.add_assoc]⟩
set_option maxRecDepth 4000 in
theorem quiet_in0 {f : FuncId} {args : Array Value} {v : Value} {w : World} {n : Nat} (h : Calls Try.prog f args (w.drewN n) (Quiet v (w.drewN n))) :
    Calls Try.prog f args (w.drewN n) fun e w' => e = .returned v ∧ ∃ m, w' = w.drewN m :=
  h.mono fun _ _ ⟨he, m, hm⟩ => ⟨he, n + m, by rw [hm, World.drewN_drewN]⟩

/-- The cells of a text of runes, and of bytes. -/
def rv (l : List Int) : List Value := l.map (Value.int .i32)
def bv (l : List UInt8) : List Value := l.map fun c => Value.int .u8 c.toNat
set_option maxRecDepth 4000 in
theorem rv_len (l : List Int) : (rv l).length = l.length := by simp [rv]
set_option maxRecDepth 4000 in
theorem bv_len (l : List UInt8) : (bv l).length = l.length := by simp [bv]
set_option maxRecDepth 4000 in
theorem rv_append (l m : List Int) : rv (l ++ m) = rv l ++ rv m := by simp [rv]
set_option maxRecDepth 4000 in
theorem bv_append (l m : List UInt8) : bv (l ++ m) = bv l ++ bv m := by simp [bv]
set_option maxRecDepth 4000 in
theorem rv_take (l : List Int) (n : Nat) : rv (l.take n) = (rv l).take n := by simp [rv]
set_option maxRecDepth 4000 in
theorem rv_drop (l : List Int) (n : Nat) : rv (l.drop n) = (rv l).drop n := by simp [rv]
set_option maxRecDepth 4000 in
theorem rv_at (l : List Int) (k : Nat) (h : k < l.length) : (rv l)[k]? = some (.int .i32 (atL l k)) := by simp [rv, atL_eq l k h, h]
set_option maxRecDepth 4000 in
theorem rv_one (l : List Int) : ∀ u ∈ rv l, u.oneCell' = true := by
  intro u hu
  obtain ⟨x, _, rfl⟩ := List.mem_map.1 hu
  rfl
set_option maxRecDepth 4000 in
theorem bv_one (l : List UInt8) : ∀ u ∈ bv l, u.oneCell' = true := by
  intro u hu
  obtain ⟨x, _, rfl⟩ := List.mem_map.1 hu
  rfl

/-- The slice at A holds the values xs, below block B. -/
def VL (w : World) (B : Nat) (A : Option Addr) (xs : List Value) : Prop :=
  xs ≠ [] → ∃ b o, A = some ⟨b, o, none⟩ ∧ b < B ∧ ∀ k u, xs[k]? = some u → w.cell? ⟨b, o + k, none⟩ = some u

section
variable {w w' : World} {B B' : Nat} {A : Option Addr} {xs : List Value}
set_option maxRecDepth 4000 in
theorem VL.keep (h : VL w B A xs) (hk : ∀ p : Addr, p.block < B → w'.cell? p = w.cell? p) : VL w' B A xs := fun hn => by
  obtain ⟨b, o, e, hb, hc⟩ := h hn
  exact ⟨b, o, e, hb, fun k u hku => (hk _ hb).trans (hc k u hku)⟩
set_option maxRecDepth 4000 in
theorem VL.below (h : VL w B A xs) (hb : Below B w w') : VL w' B A xs := h.keep fun _ hp => hb.cell hp
set_option maxRecDepth 4000 in
theorem VL.drewN (h : VL w B A xs) (n : Nat) : VL (w.drewN n) B A xs := h
set_option maxRecDepth 4000 in
theorem VL.more (h : VL w B A xs) (hB : B ≤ B') : VL w B' A xs := fun hn => by
  obtain ⟨b, o, e, hb, hc⟩ := h hn
  exact ⟨b, o, e, by omega, hc⟩
set_option maxRecDepth 4000 in
theorem VL.later (h : VL w w.heap.size A xs) (hb : Below w.heap.size w w') : VL w' w'.heap.size A xs := (h.below hb).more hb.size
set_option maxRecDepth 4000 in
theorem VL.nil (w : World) (B : Nat) (A : Option Addr) : VL w B A [] := fun h => absurd rfl h
set_option maxRecDepth 4000 in
theorem VL.take (h : VL w B A xs) (n : Nat) : VL w B A (xs.take n) := fun hn => by
  obtain ⟨b, o, e, hb, hc⟩ := h (by rintro rfl; simp at hn)
  refine ⟨b, o, e, hb, fun k u hk => hc k u ?_⟩
  rw [List.getElem?_take] at hk
  split at hk
  · exact hk
  · cases hk
set_option maxRecDepth 4000 in
theorem VL.drop (h : VL w B A xs) (n c m : Nat) (hm : m = xs.length) (hc : m ≤ c) : VL w B (if c = n then A else A.map (·.add (n * 1))) (xs.drop n) := fun hn => by
  have hl : n < xs.length := by
    rcases Nat.lt_or_ge n xs.length with h | h
    · exact h
    · exact absurd (List.drop_eq_nil_of_le h) hn
  obtain ⟨b, o, rfl, hb, hcell⟩ := h (by rintro rfl; simp at hl)
  rw [if_neg (by omega)]
  refine ⟨b, o + n, by simp [add_plain], hb, fun k u hk => ?_⟩
  rw [List.getElem?_drop] at hk
  rw [Nat.add_assoc]
  exact hcell _ u hk
end
set_option maxRecDepth 4000 in
theorem VL.rune {w : World} {B : Nat} {A : Option Addr} {l : List Int} (h : VL w B A (rv l)) {k : Nat} (hk : k < l.length) : ∃ b o, A = some ⟨b, o, none⟩ ∧ b < B ∧ w.cell? ⟨b, o + k, none⟩ = some (.int .i32 (atL l k)) := by
  obtain ⟨b, o, e, hb, hc⟩ := h (by intro e; have := congrArg List.length e; rw [rv_len] at this; simp at this; subst this; simp at hk)
  exact ⟨b, o, e, hb, hc k _ (rv_at l k hk)⟩

/-- The value v is a row of the call's own (blocks from b on) of elements of type t, that holds xs. -/
def OwnV (t : TypeId) (w : World) (b : Nat) (v : Value) (xs : List Value) : Prop :=
  ∃ (A : Option Addr) (c : Nat), v = .slice A xs.length c ∧ xs.length ≤ c ∧ c ≤ maxLen ∧ w.ownsRow b t 1 v xs.length xs

section
variable {t : TypeId} {w w' : World} {b b' : Nat} {v : Value} {xs : List Value}
set_option maxRecDepth 4000 in
theorem OwnV.of_own {n : Nat} (h : w.ownsRow b t 1 v n xs) (hn : n = xs.length) : OwnV t w b v xs := by
  subst hn
  rcases h.2 with ⟨e, h0⟩ | ⟨g, cap, cur, e, _, _, h3, h4, _⟩
  · exact ⟨none, 0, by rw [e, h0], by omega, by unfold maxLen; omega, h⟩
  · exact ⟨some ⟨g, 0, none⟩, cap, e, h3, h4, h⟩
set_option maxRecDepth 4000 in
theorem OwnV.own (h : OwnV t w b v xs) : w.ownsRow b t 1 v xs.length xs := by
  obtain ⟨_, _, _, _, _, h⟩ := h
  exact h
set_option maxRecDepth 4000 in
theorem OwnV.nil (w : World) (b : Nat) : OwnV t w b (.slice none 0 0) [] := OwnV.of_own (World.ownsRow_nil w b t 1) rfl
set_option maxRecDepth 4000 in
theorem OwnV.lt (h : OwnV t w b v xs) {j : Nat} (hj : v.ownBlock = some j) : b ≤ j ∧ j < w.heap.size := h.own.lt j hj
set_option maxRecDepth 4000 in
theorem OwnV.below (h : OwnV t w b v xs) (hb : Below w.heap.size w w') : OwnV t w' b v xs := by
  obtain ⟨A, c, e, h1, h2, h3⟩ := h
  refine ⟨A, c, e, h1, h2, h3.1, ?_⟩
  rcases h3.2 with h4 | ⟨g, cap, cur, e2, hbg, hg, rest⟩
  · exact .inl h4
  · refine .inr ⟨g, cap, cur, e2, hbg, ?_, rest⟩
    rw [hb.block g (Array.getElem?_eq_some_iff.1 hg).1]
    exact hg
set_option maxRecDepth 4000 in
theorem OwnV.weaken (h : OwnV t w b v xs) (hb : b' ≤ b) : OwnV t w b' v xs := by
  obtain ⟨A, c, e, h1, h2, h3⟩ := h
  refine ⟨A, c, e, h1, h2, h3.1, ?_⟩
  rcases h3.2 with h4 | ⟨g, cap, cur, e2, hbg, rest⟩
  · exact .inl h4
  · exact .inr ⟨g, cap, cur, e2, by omega, rest⟩
set_option maxRecDepth 4000 in
theorem OwnV.open_ (h : OwnV t w b v xs) : ∃ (A : Option Addr) (c : Nat), v = .slice A xs.length c ∧ xs.length ≤ c ∧ c ≤ maxLen ∧ VL w w.heap.size A xs := by
  obtain ⟨A, c, e, h1, h2, h3⟩ := h
  refine ⟨A, c, e, h1, h2, fun hn => ?_⟩
  have hl : 0 < xs.length := List.length_pos_iff.2 hn
  rcases h3.2 with ⟨_, h0⟩ | ⟨g, cap, cur, e2, hbg, hg, _⟩
  · omega
  · have e3 : A = some ⟨g, 0, none⟩ := by
      have := e.symm.trans e2
      injection this
    subst e3
    refine ⟨g, 0, rfl, (Array.getElem?_eq_some_iff.1 hg).1, fun k u hk => ?_⟩
    have := h3.cells (g := g) (by rw [e]; rfl) k u hk
    rwa [add_plain] at this
set_option maxRecDepth 4000 in
theorem OwnV.open_at (h : OwnV t w b v xs) (n : Nat) (hn : xs.length = n) : ∃ A c, v = .slice A n c ∧ n ≤ c ∧ c ≤ maxLen ∧ VL w w.heap.size A xs ∧ OwnV t w b (.slice A n c) xs := by
  subst hn
  have h0 := h
  obtain ⟨A, c, rfl, h1, h2, h3⟩ := h.open_
  exact ⟨A, c, rfl, h1, h2, h3, h0⟩
end

/-- Nothing that was there has turned but v's own row. -/
structure Grew (b : Nat) (v : Value) (W w' : World) : Prop where
  size : W.heap.size ≤ w'.heap.size
  below : ∀ B w0, B ≤ b → B ≤ W.heap.size → Below B w0 W → Below B w0 w'
  cell : ∀ p : Addr, p.block < W.heap.size → some p.block ≠ v.ownBlock → w'.cell? p = W.cell? p
set_option maxRecDepth 4000 in
theorem Grew.refl (b : Nat) (v : Value) (W : World) : Grew b v W W := ⟨Nat.le_refl _, fun _ _ _ _ h => h, fun _ _ _ => rfl⟩

set_option maxRecDepth 4000 in
theorem wpList_append_none {w : World} {ops : Array Oper} {rest : List Oper} {o : Oper} {a : Act} {Q : Exit → Act → World → Prop} (hgd : o.guard = none) (s x : Operand) (t : TypeId)
    (ho : o.op = .call { callee := .builtin .append, args := #[s, x], argTypes := #[t, t] })
    (base : Nat) (e : TypeId) (i : TypeInfo) (size : Nat) (ht : Try.prog.underlying t = some (.slice e)) (hi : Try.prog.info? e = some i)
    (v : Value) (n : Nat) (xs : List Value) (hs : a.eval s = v) (hown : w.ownsRow base e size v n xs) (c : Nat) (hx : a.eval x = .slice none 0 c)
    (h : wpList Try.prog ops Q rest (a.put o.dst v) w) : wpList Try.prog ops Q (o :: rest) a w := by
  refine wpList_plain hgd fun K hK => ?_
  have hrun : (Builtin.append_ #[t, t] o.type #[v, .slice none 0 c]).run Try.prog w = .ok v w := by
    rcases hown.2 with ⟨rfl, rfl⟩ | ⟨g, cap, cur, rfl, _, _, hnc, _⟩
    · simp [Builtin.append_, run_underlying ht, sizeOf, typeInfo, hi, Builtin.lenOf, Builtin.firstCells]
    · simp [Builtin.append_, run_underlying ht, sizeOf, typeInfo, hi, Builtin.lenOf, Builtin.firstCells, hnc, storeCells]
  unfold Oper.wp
  simp [execOp, ho, resolve, invoke, builtin, hs, hx, hrun, Result.andThen]
  exact hK _ _ h

/-- What the table of types says of a one-cell element. -/
structure Elem (ts te : TypeId) (by_ : Nat) : Prop where
  under : Try.prog.underlying ts = some (.slice te)
  info : ∃ i z, Try.prog.info? te = some i ∧ i.zero = some z ∧ i.size = 1 ∧ i.bytes = by_ ∧ z.cells.size = 1
set_option maxRecDepth 4000 in
theorem runeInfo : (Try.prog.info? 21).map (fun i => (i.zero, i.size, i.bytes)) = some (some (.int .i32 0), 1, 4) := by kernel_rfl
set_option maxRecDepth 4000 in
theorem byteInfo : (Try.prog.info? 5).map (fun i => (i.zero, i.size, i.bytes)) = some (some (.int .u8 0), 1, 1) := by kernel_rfl
set_option maxRecDepth 4000 in
theorem runeElem : Elem 24 21 4 := ⟨Try.underlying24, by
  obtain ⟨i0, hi, hz0, hz1, hz2⟩ := info_parts runeInfo
  exact ⟨i0, _, hi, hz0, hz1, hz2, rfl⟩⟩
set_option maxRecDepth 4000 in
/-- A list's values appended to a row of the call's own. -/
theorem wpList_append_V {ts te : TypeId} {by_ : Nat} (E : Elem ts te by_) (hby : by_ ≤ 64) (W : World) {ops : Array Oper} {rest : List Oper} {o : Oper} {a : Act} {Q : Exit → Act → World → Prop} (hgd : o.guard = none) (s x : Operand)
    (ho : o.op = .call { callee := .builtin .append, args := #[s, x], argTypes := #[ts, ts] })
    (b : Nat) (v : Value) (k l : List Value) (hs : a.eval s = v) (hO : OwnV te W b v k) (A : Option Addr) (n c B : Nat) (hx : a.eval x = .slice A n c) (hn : l.length = n) (hp : VL W B A l) (h1 : ∀ u ∈ l, u.oneCell' = true) (hlen : k.length + l.length ≤ 2200000) (hb : b ≤ W.heap.size)
    (hK : ∀ v' w', OwnV te w' b v' (k ++ l) → Grew b v W w' → wpList Try.prog ops Q rest (a.put o.dst v') w') :
    wpList Try.prog ops Q (o :: rest) a W := by
  subst hn
  obtain ⟨i0, z, hi, hz0, hz1, hz2, hz3⟩ := E.info
  rcases A with _ | ad
  · have hl : l = [] := by
      rcases Classical.em (l = []) with h | h
      · exact h
      · obtain ⟨_, _, h, _⟩ := hp h; cases h
    subst hl
    refine wpList_append_none hgd s x ts ho b te i0 1 E.under hi v k.length k hs hO.own c hx ?_
    exact hK v W (by rw [List.append_nil]; exact hO) (Grew.refl _ _ _)
  · have hc : ∀ j u, l[j]? = some u → W.cell? (ad.add j) = some u := by
      intro j u hj
      have hjl : j < l.length := (List.getElem?_eq_some_iff.1 hj).1
      obtain ⟨b', o', e, _, h⟩ := hp (by rintro rfl; simp at hjl)
      obtain rfl := Option.some.inj e
      rw [add_plain, h j u hj]
    have hbb : (k.length + l.length) * by_ ≤ 2200000 * 64 := Nat.mul_le_mul hlen hby
    refine wpList_append_own _ hgd s x ts ho b te i0 _ 1 by_ E.under hi hz0 hz1 hz2 hz3 (by decide) v k.length k hs hO.own ad l.length c l hx (by simp) hc h1
      (by unfold maxLen; omega) (by omega) hb (fun v' w' h1 h2 _ => hK v' w' (OwnV.of_own (n := k.length + l.length) h1 (by simp)) ?_)
    exact ⟨h2.size, fun B w0 hB hBW hb0 => hb0.grown h2 hBW (fun j hj => Nat.le_trans hB (hO.lt hj).1), fun p hp hne => World.cell?_of_block (h2.block p.block hp hne)⟩

set_option maxRecDepth 4000 in
theorem VL_new (w : World) (t : TypeId) (xs : List Value) : VL (w.alloc (.cells xs.toArray t)) (w.heap.size + 1) (some ⟨w.heap.size, 0, none⟩) xs := fun _ =>
  ⟨w.heap.size, 0, rfl, by omega, fun k u hk => by
    rw [World.cell?_alloc_new]
    simpa using hk⟩
set_option maxRecDepth 4000 in
/-- One value appended to a row of the call's own. -/
theorem wpList_append_1 {ts te : TypeId} {by_ : Nat} (E : Elem ts te by_) (hby : by_ ≤ 64) (W : World) {ops : Array Oper} {rest : List Oper} {o : Oper} {a : Act} {Q : Exit → Act → World → Prop} (hgd : o.guard = none) (s x : Operand)
    (ho : o.op = .call { callee := .builtin .append, args := #[s, x], argTypes := #[ts, ts] })
    (b : Nat) (v : Value) (k : List Value) (y : Value) (tb : TypeId) (hs : a.eval s = v) (hO : OwnV te W b v k) (g : Nat) (hg : g = W.heap.size) (hx : a.eval x = .slice (some ⟨g, 0, none⟩) 1 1) (h1 : y.oneCell' = true) (hlen : k.length ≤ 50000) (hb : b ≤ W.heap.size)
    (hK : ∀ v' w', OwnV te w' b v' (k ++ [y]) → Grew b v W w' → wpList Try.prog ops Q rest (a.put o.dst v') w') :
    wpList Try.prog ops Q (o :: rest) a (W.alloc (.cells #[y] tb)) := by
  subst hg
  refine wpList_append_V E hby (W.alloc (.cells #[y] tb)) hgd s x ho b v k [y] hs (hO.below ((Below.refl _ _).alloc (Nat.le_refl _) _)) (some ⟨W.heap.size, 0, none⟩) 1 1 (W.heap.size + 1) hx rfl (VL_new W tb [y]) (by simpa using h1) (by simp; omega) (by simp; omega) ?_
  intro v' w' h1 h2
  refine hK v' w' h1 ⟨by have := h2.size; simp at this; omega, fun B w0 hB hBW h => h2.below B w0 hB (by simp; omega) (h.alloc hBW _), fun p hp hne => ?_⟩
  rw [h2.cell p (by simp; omega) hne]
  exact World.cell?_alloc_lt _ _ p hp

/-- What a call makes anew: one list, a list and an error's number, a text. -/
def NewI (w : World) (l : List Int) (e : Ending) (w' : World) : Prop := ∃ v, e = .returned v ∧ OwnV 21 w' w.heap.size v (rv l) ∧ Below w.heap.size w w'
def NewE (w : World) (r : List Int × Int) (e : Ending) (w' : World) : Prop := ∃ v, e = .returned (.tuple #[v, .int .i64 r.2]) ∧ OwnV 21 w' w.heap.size v (rv r.1) ∧ Below w.heap.size w w'
set_option maxRecDepth 4000 in
theorem newE_ret {w w' : World} {r : List Int × Int} {l : List Int} {e : Int} {v : Value} (h : r = (l, e)) (ho : OwnV 21 w' w.heap.size v (rv l)) (hb : Below w.heap.size w w') : NewE w r (.returned (.tuple #[v, .int .i64 e])) w' := by
  subst h; exact ⟨v, rfl, ho, hb⟩
set_option maxRecDepth 4000 in
theorem NewI.own {w w' : World} {l : List Int} {e : Ending} (h : NewI w l e w') (n : Nat) (hn : l.length = n) :
    ∃ A c, e = .returned (.slice A n c) ∧ n ≤ c ∧ VL w' w'.heap.size A (rv l) ∧ OwnV 21 w' w.heap.size (.slice A n c) (rv l) ∧ Below w.heap.size w w' := by
  obtain ⟨v, he, ho, hb⟩ := h
  obtain ⟨A, c, rfl, h1, _, h2, h3⟩ := ho.open_at n (by rw [rv_len]; exact hn)
  exact ⟨A, c, he, h1, h2, h3, hb⟩
set_option maxRecDepth 4000 in
theorem NewE.own {w w' : World} {r : List Int × Int} {e : Ending} (h : NewE w r e w') (l : List Int) (er : Int) (n : Nat) (hr : r = (l, er)) (hn : l.length = n) :
    ∃ A c, e = .returned (.tuple #[.slice A n c, .int .i64 er]) ∧ n ≤ c ∧ VL w' w'.heap.size A (rv l) ∧ OwnV 21 w' w.heap.size (.slice A n c) (rv l) ∧ Below w.heap.size w w' := by
  subst hr
  obtain ⟨v, he, ho, hb⟩ := h
  obtain ⟨A, c, rfl, h1, _, h2, h3⟩ := ho.open_at n (by rw [rv_len]; exact hn)
  exact ⟨A, c, he, h1, h2, h3, hb⟩

set_option maxRecDepth 4000 in
theorem run_mk_rune (n : Nat) (hn : n ≤ 100000) (w : World) : (Instr.makeSlice 24 (.int .i64 0) (.int .i64 (n : Int))).run Try.prog w = .ok (.slice (some ⟨w.heap.size, 0, none⟩) 0 n) (w.alloc (.cells (madeCells #[.int .i32 0] n) 21)) := by
  obtain ⟨i0, hi, hz0, hz1, hz2⟩ := info_parts runeInfo
  have h := run_makeSlice (P := Try.prog) w 24 21 i0 _ Try.underlying24 hi hz0 .i64 .i64 0 (n : Int) (by omega) (by omega) (by rw [hz1]; simp; omega) (by rw [hz2]; omega) (by omega)
  rw [h, hz1]
  simp [Value.cells]
set_option maxRecDepth 4000 in
theorem OwnV.made (t : TypeId) (w : World) (z : Value) (b n : Nat) (hn : n ≤ 100000) (hb : b ≤ w.heap.size) : OwnV t (w.alloc (.cells (madeCells #[z] n) t)) b (.slice (some ⟨w.heap.size, 0, none⟩) 0 n) [] :=
  OwnV.of_own (World.ownsRow_made w _ n hb (by unfold maxLen; omega) (by rw [size_madeCells]; simp)) rfl

end Go.Proofs.Ytdjajpookmmafaa
