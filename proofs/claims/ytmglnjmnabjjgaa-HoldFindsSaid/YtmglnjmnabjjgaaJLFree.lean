/- The refs without the first one of a number: the document's Free. The map of kinds: what it holds, what is found in it. Lists told anew: what holds of them holds whatever else is stored into a variable. Refs told anew: slices.Clone, fresh. One ref more: the document's Add. An operation told anew: fresh, freshSel. Whether a ref may be: the program's Check. -/
import Derived.Test.YtmglnjmnabjjgaaJLOpen
import Derived.Test.YtmglnjmnabjjgaaJKCmp
import Derived.Maps.OwnSet
import Derived.Test.YtmglnjmnabjjgaaJXMove5
import Derived.Great.BuildSlice
namespace Go.Proofs.Ytmglnjmnabjjgaa
open Go.RowKit

theorem refInfo : (Try.prog.info? 34).map (fun i => (i.zero, i.size, i.bytes)) = some (some (.agg RC.zero.row), 11, 152) := by kernel_rfl
set_option maxRecDepth 4000 in
theorem refG : ElemG 27 34 11 152 := ⟨Try.underlying27, by
  obtain ⟨i0, hi, hz0, hz1, hz2⟩ := info_parts refInfo
  exact ⟨i0, _, hi, hz0, hz1, hz2, rfl⟩, by decide⟩
set_option maxRecDepth 4000 in
/-- What an own row holds lies at its place. -/
theorem lrow_vl {w : World} {b n size c : Nat} {A : Option Addr} {t : TypeId} {xs : List Value} (h : w.ownsRow b t size (.slice A n c) n xs) : n ≤ c ∧ VL w w.heap.size A xs := by
  rcases h.2 with ⟨e, _⟩ | ⟨g, cap, cur, e, hbg, hg, hnc, _, hsz, hcur⟩
  · injection e with e1 e2 e3
    subst e1 e2 e3
    exact ⟨Nat.le_refl _, fun hn => absurd (List.eq_nil_of_length_eq_zero (by have := h.1; omega)) hn⟩
  · injection e with e1 e2 e3
    subst e1 e3
    refine ⟨hnc, fun _ => ⟨g, 0, rfl, (Array.getElem?_eq_some_iff.1 hg).1, fun k u hk => ?_⟩⟩
    rw [← hcur, List.getElem?_take] at hk
    split at hk
    · simp only [World.cell?, hg, Nat.zero_add]
      simpa using hk
    · cases hk
set_option maxRecDepth 4000 in
theorem grown_below {w W W' : World} {o : Option Nat} (hb : Below w.heap.size w W) (g : W.grownBy W' o) (ho : ∀ j, o = some j → w.heap.size ≤ j) : Below w.heap.size w W' :=
  hb.trans ⟨g.os, g.tape, g.output, g.size, fun k hk => g.block k (Nat.lt_of_lt_of_le hk hb.size) (fun e => absurd (ho k e.symm) (by omega))⟩
/-- Each of cs holds its ref of us. -/
def RkL (w : World) (cs : List RC) (us : List RefP) : Prop := cs.length = us.length ∧ ∀ (k : Nat) (c : RC) (a : RefP), cs[k]? = some c → us[k]? = some a → RkA w c a
set_option maxRecDepth 4000 in
theorem RkL.later {w w' : World} {cs : List RC} {us : List RefP} (h : RkL w cs us) (hb : Below w.heap.size w w') : RkL w' cs us := ⟨h.1, fun k c a h1 h2 => (h.2 k c a h1 h2).later hb⟩
set_option maxRecDepth 4000 in
theorem LR.rk {w : World} {A : Option Addr} {cs : List RC} {us : List RefP} (h : LR w A cs us) : RkL w cs us := ⟨h.hl, h.ha⟩
set_option maxRecDepth 4000 in
theorem RkL.app {w : World} {cs ds : List RC} {us vs : List RefP} (h : RkL w cs us) (g : RkL w ds vs) : RkL w (cs ++ ds) (us ++ vs) := ⟨by simp [h.1, g.1], fun j c a h1 h2 => by
  rw [List.getElem?_append] at h1 h2
  rw [← h.1] at h2
  split at h1
  · rename_i hj
    rw [if_pos hj] at h2
    exact h.2 j c a h1 h2
  · rename_i hj
    rw [if_neg hj] at h2
    exact g.2 _ c a h1 h2⟩
set_option maxRecDepth 4000 in
theorem RkL.one {w : World} {c : RC} {r : RefP} (h : RkA w c r) : RkL w [c] [r] := ⟨rfl, fun j d a h1 h2 => by
  match j with
  | 0 =>
    simp only [List.getElem?_cons_zero, Option.some.injEq] at h1 h2
    subst h1 h2
    exact h
  | j + 1 => simp at h1⟩
set_option maxRecDepth 4000 in
theorem RkL.lr {w : World} {A : Option Addr} {cs : List RC} {us : List RefP} (h : RkL w cs us) (hv : VL w w.heap.size A (cellsR cs)) : LR w A cs us := ⟨hv, h.1, h.2⟩

end Go.Proofs.Ytmglnjmnabjjgaa

namespace Go.Proofs.Ytmglnjmnabjjgaa
open Go.RowKit Go.Maps

/-- A kind. -/
structure KC where
  last : Int
  chk : Value
  along : Value
def KC.row (c : KC) : Array Value := #[.int .i64 c.last, c.chk, c.along]
def fnV (f : FuncId) : Value := .func (.func f) #[] #[]
def kc1 : KC := ⟨0, fnV 36, fnV 38⟩
def kc2 : KC := ⟨2, fnV 40, fnV 42⟩
def kc3 : KC := ⟨4, fnV 44, fnV 46⟩
def kc0 : KC := ⟨0, .nilFunc, .nilFunc⟩
def kindK (k : Int) : KC × Bool := if k = 1 then (kc1, true) else if k = 2 then (kc2, true) else if k = 3 then (kc3, true) else (kc0, false)
def heldR (v : Value) : Option (DataW Value × List MemPlace) := some (.held v, [])
/-- A map of kinds with at most n entries. -/
def KM (w : World) (b n : Nat) (D : DataW Value) : Prop := w.ownsMap Try.prog 3 heldR b n D
abbrev ki (k : Int) : Lit := .int .i64 k
def kindsD : DataW Value := (((DataW.map []).put (ki 1) (.held (.agg kc1.row))).put (ki 2) (.held (.agg kc2.row))).put (ki 3) (.held (.agg kc3.row))
/-- The map of all three. -/
def KindsAt (w : World) (b : Nat) : Prop := KM w b 3 kindsD
set_option maxRecDepth 4000 in
theorem law_ki : Keyed Try.prog 3 := int_keyed Try.underlying3
set_option maxRecDepth 4000 in
theorem zero_kc (w : World) : (zeroValue 60).run Try.prog w = .ok (.agg kc0.row) w := by kernel_rfl
set_option maxRecDepth 4000 in
theorem KM.below {w w' : World} {b n : Nat} {D : DataW Value} (h : KM w b n D) (hb : Below w.heap.size w w') : KM w' b n D := World.ownsMap.kept (row := none) h ⟨hb.os, hb.tape, hb.output, hb.size, fun i hi _ => hb.block i hi⟩ (by simp)
set_option maxRecDepth 4000 in
theorem kinds_is : IsMap (H := Value) (.map []) := ⟨[], rfl⟩
set_option maxRecDepth 4000 in
theorem atKey_kinds (k : Int) : kindsD.atKey (ki k) (.held (.agg kc0.row)) = .held (.agg (kindK k).1.row) ∧ Maps.has kindsD (ki k) = (kindK k).2 := by
  have i0 := kinds_is
  have i1 : IsMap ((DataW.map (H := Value) []).put (ki 1) (.held (.agg kc1.row))) := i0.put _ _
  have i2 : IsMap (((DataW.map (H := Value) []).put (ki 1) (.held (.agg kc1.row))).put (ki 2) (.held (.agg kc2.row))) := i1.put _ _
  have hne : ∀ {a b : Int}, a ≠ b → ki a ≠ ki b := fun h e => h (by injection e)
  unfold kindsD kindK
  by_cases h3 : k = 3
  · subst h3
    rw [atKey_put_same i2 (show WideAt.IsKeyLit (ki 3) from trivial), has_put_same i2 (show WideAt.IsKeyLit (ki 3) from trivial)]
    exact ⟨rfl, rfl⟩
  rw [atKey_put_other (hne h3), has_put_other (hne h3)]
  by_cases h2 : k = 2
  · subst h2
    rw [atKey_put_same i1 (show WideAt.IsKeyLit (ki 2) from trivial), has_put_same i1 (show WideAt.IsKeyLit (ki 2) from trivial)]
    exact ⟨rfl, rfl⟩
  rw [atKey_put_other (hne h2), has_put_other (hne h2)]
  by_cases h1 : k = 1
  · subst h1
    rw [atKey_put_same i0 (show WideAt.IsKeyLit (ki 1) from trivial), has_put_same i0 (show WideAt.IsKeyLit (ki 1) from trivial)]
    exact ⟨rfl, rfl⟩
  rw [atKey_put_other (hne h1), has_put_other (hne h1), if_neg h1, if_neg h2, if_neg h3]
  exact ⟨rfl, rfl⟩
set_option maxRecDepth 4000 in
theorem run_kind {w : World} {b : Nat} (h : KindsAt w b) {k : Int} (hk : (Lit.int .i64 k).wf = true) : (Instr.lookup 62 (.map (some b)) (.int .i64 k) true).run Try.prog w = .ok (.tuple #[.agg (kindK k).1.row, .bool (kindK k).2]) w := by
  obtain ⟨v, ps, hrun, hv⟩ := World.ownsMap.look_ok h law_ki Try.underlying62 (zero_kc w) (zd := .held (.agg kc0.row)) (zp := []) rfl (keyOf_int_mk Try.underlying3 hk)
  obtain ⟨e1, e2⟩ := atKey_kinds k
  rw [show Lit.int .i64 k = ki k from rfl] at hrun hv
  rw [e1] at hv
  rw [e2] at hrun
  unfold heldR at hv
  injection hv with hv
  injection hv with hv
  injection hv with hv
  rw [hrun, hv]
set_option maxRecDepth 4000 in
theorem wpList_kind {w : World} {ops : Array Oper} {rest : List Oper} {o : Oper} {a : Act} {Q : Exit → Act → World → Prop} {b : Nat} {k : Int} (h : KindsAt w b) (hk : (Lit.int .i64 k).wf = true) (hg : o.guard = none) (m x : Operand) (hop : o.op = Op.lookup 62 m x true) (hm : a.eval m = .map (some b)) (hx : a.eval x = .int .i64 k)
    (hK : wpList Try.prog ops Q rest (a.put o.dst (.tuple #[.agg (kindK k).1.row, .bool (kindK k).2])) w) : wpList Try.prog ops Q (o :: rest) a w := by
  refine wpList_plain hg fun K' hK' => ?_
  unfold Oper.wp
  simp [execOp, hop, hm, hx, run_kind h hk, Result.andThen]
  exact hK' _ _ hK
set_option maxRecDepth 4000 in
theorem wpList_put_K (w : World) {ops : Array Oper} {rest : List Oper} {o : Oper} {a : Act} {Q : Exit → Act → World → Prop} (hg : o.guard = none) (m x v : Operand) (hop : o.op = Op.insert 62 m x v)
    (b n : Nat) (D : DataW Value) (k : Int) (u : Value) (hm : a.eval m = .map (some b)) (hown : KM w b n D) (hl : n < maxLen) (hx : a.eval x = .int .i64 k) (hv : a.eval v = u) (hk : (Lit.int .i64 k).wf = true)
    (hK : ∀ w', KM w' b (n + 1) (D.put (ki k) (.held u)) → w.grownBy w' (some b) → wpList Try.prog ops Q rest (a.put o.dst undef) w') : wpList Try.prog ops Q (o :: rest) a w := by
  refine wpList_plain hg fun K' hK' => ?_
  obtain ⟨w', hrun, r1, r2⟩ := World.ownsMap.update hown law_ki Try.underlying62 hl (keyOf_int_mk Try.underlying3 hk) (val := u) (d := .held u) (ps := []) rfl
  unfold Oper.wp
  simp [execOp, hop, hm, hx, hv, hrun, Result.andThen]
  exact hK' _ _ (hK w' r1 r2)
set_option maxRecDepth 4000 in
theorem gd_insert {P : Program} {ops : Array Oper} {Q : Exit → Act → World → Prop} {dst : Option Nat} {t ty : TypeId} {m x v : Operand} {pos : String} {af : Array Edge} {rest : List Oper} {a : Act} {w : World} (h : wpList P ops Q ({ dst := dst, op := .insert t m x v, type := ty, pos := pos, after := af, guard := none } :: rest) a w) : wpList P ops Q ({ dst := dst, op := .insert t m x v, type := ty, pos := pos, after := af, guard := none } :: rest) a w := h

/-- A map of kinds told. -/
def NewKM (w : World) (e : Ending) (w' : World) : Prop := ∃ b, e = .returned (.map (some b)) ∧ KindsAt w' b ∧ w.heap.size ≤ b ∧ Below w.heap.size w w'
set_option maxRecDepth 100000 in
set_option maxHeartbeats 4000000 in
theorem kinds_any (w : World) : Calls Try.prog 24 #[] w (NewKM w) := by
  have hmm := @run_makeMap Try.prog
  have HM0 := hd (World.ownsMap_made (H := Value) w Try.prog 3 heldR)
  have HB0 := hd ((Below.refl w.heap.size w).alloc (Nat.le_refl _) (.map #[] 0))
  go_enter Try.func24, Try.ntmps24
  go_wp2_with (first
    | ((with_reducible refine gd_insert ?_); have _g := HM0; refine wpList_put_K _ rfl _ _ _ rfl w.heap.size 0 _ 1 (.agg kc1.row) rfl HM0.out (by decide) rfl rfl rfl ?_; clear HM0; intro w1 h1 g1; have HM1 := hd h1; have HB1 := hd (grown_below HB0.out g1 (fun j hj => by injection hj with hj; omega)); clear h1 g1)
    | ((with_reducible refine gd_insert ?_); have _g := HM1; refine wpList_put_K _ rfl _ _ _ rfl w.heap.size 1 _ 2 (.agg kc2.row) rfl HM1.out (by decide) rfl rfl rfl ?_; clear HM1; intro w2 h2 g2; have HM2 := hd h2; have HB2 := hd (grown_below HB1.out g2 (fun j hj => by injection hj with hj; omega)); clear h2 g2)
    | ((with_reducible refine gd_insert ?_); have _g := HM2; refine wpList_put_K _ rfl _ _ _ rfl w.heap.size 2 _ 3 (.agg kc3.row) rfl HM2.out (by decide) rfl rfl rfl ?_; clear HM2; intro w3 h3 g3; have HM3 := hd h3; have HB3 := hd (grown_below HB2.out g3 (fun j hj => by injection hj with hj; omega)); clear h3 g3))
  go_ret
  exact ⟨w.heap.size, rfl, HM3.out, Nat.le_refl _, HB3.out⟩

end Go.Proofs.Ytmglnjmnabjjgaa

namespace Go.Proofs.Ytmglnjmnabjjgaa
open Go.RowKit
open Go.WideShapes (add_plain)

/-- Nothing from block lo on has changed. -/
structure High (lo : Nat) (w w' : World) : Prop where
  size : w.heap.size ≤ w'.heap.size
  block : ∀ k, lo ≤ k → k < w.heap.size → w'.heap[k]? = w.heap[k]?
set_option maxRecDepth 4000 in
theorem High.off {lo g : Nat} {w w' : World} (h : Off g w w') (hg : g < lo) : High lo w w' := ⟨h.size, fun k h1 h2 => h.block k h2 (by omega)⟩
set_option maxRecDepth 4000 in
theorem High.cell {lo : Nat} {w w' : World} (h : High lo w w') {p : Addr} (h1 : lo ≤ p.block) (h2 : p.block < w.heap.size) : w'.cell? p = w.cell? p := World.cell?_of_block (h.block p.block h1 h2)
/-- Whatever is done below block lo, P holds. -/
def Stab (lo : Nat) (w : World) (P : World → Prop) : Prop := ∀ w', High lo w w' → P w'
/-- A list of n told anew; P: what is said of its place. -/
def NewL (w : World) (n : Nat) (P : World → Option Addr → Prop) (e : Ending) (w' : World) : Prop :=
  ∃ A c, e = .returned (.slice A n c) ∧ n ≤ c ∧ Stab w.heap.size w' (fun W => P W A) ∧ Below w.heap.size w w'

set_option maxRecDepth 4000 in
theorem IL.high {lo : Nat} {w w' : World} {A : Option Addr} {l : List Int} (h : IL w w.heap.size A l) (hA : ∀ b o, A = some ⟨b, o, none⟩ → lo ≤ b) (ho : High lo w w') : IL w' w'.heap.size A l := fun hn => by
  obtain ⟨b, o, e, hb, hc⟩ := h hn
  exact ⟨b, o, e, Nat.lt_of_lt_of_le hb ho.size, fun k hk => (ho.cell (p := ⟨b, o + k, none⟩) (hA b o e) hb).trans (hc k hk)⟩
set_option maxRecDepth 4000 in
theorem own_stab {w : World} {B n c : Nat} {A : Option Addr} {l : List Int} (ho : OwnI w B (.slice A n c) l) : Stab B w (fun W => IL W W.heap.size A l) := fun W hoff => by
  have hown := ho.own
  obtain ⟨A', c', e0, h1, _, h2⟩ := ho.open_
  injection e0 with e1 _ _
  subst e1
  refine h2.high (fun b o e => ?_) hoff
  rcases hown.2 with ⟨e1, _⟩ | ⟨g', cap, cur, e1, hbg, _⟩
  · injection e1 with e1
    rw [e] at e1; cases e1
  · injection e1 with e1
    rw [e] at e1
    injection e1 with e1
    injection e1 with e2
    omega
set_option maxRecDepth 4000 in
theorem clonei_at (A : Option Addr) (l : List Int) (n c : Nat) (w : World) (hn : l.length = n) (hl : n ≤ 1000) (hp : IL w w.heap.size A l) :
    Calls Try.prog 34 #[.slice A n c] w (NewL w n (fun W A' => IL W W.heap.size A' l)) := by
  refine (clone_any A l n c w hn hl hp).mono ?_
  rintro e w' ⟨v, rfl, ho, hb⟩
  have hown := ho.own
  obtain ⟨A', c', rfl, h1, _, h2⟩ := ho.open_
  subst hn
  refine ⟨A', c', rfl, h1, fun W' hoff => h2.high (fun b o e => ?_) hoff, hb⟩
  rcases hown.2 with ⟨e1, _⟩ | ⟨g', cap, cur, e1, hbg, _⟩
  · injection e1 with e1
    rw [e] at e1; cases e1
  · injection e1 with e1
    rw [e] at e1
    injection e1 with e1
    injection e1 with e2
    omega
end Go.Proofs.Ytmglnjmnabjjgaa

namespace Go.Proofs.Ytmglnjmnabjjgaa
open Go.RowKit
open Go.WideShapes (add_plain)

/-- A row of refs that a call makes. -/
def NewRow (w : World) (n : Nat) (cs : List RC) (e : Ending) (w' : World) : Prop := ∃ A c, e = .returned (.slice A n c) ∧ w'.ownsRow w.heap.size 34 11 (.slice A n c) n (cellsR cs) ∧ Below w.heap.size w w'
set_option maxRecDepth 4000 in
set_option maxHeartbeats 2000000 in
theorem rclone_any {w : World} {A : Option Addr} {cs : List RC} {n c : Nat} (hn : cs.length = n) (hl : n ≤ 10000) (hp : VL w w.heap.size A (cellsR cs)) : Calls Try.prog 33 #[.slice A n c] w (NewRow w n cs) := by
  have HV := hd hp
  have HN := hd hn
  clear hp hn
  rcases A with _ | a
  · have hnil := fun W => Go.Lib.run_eql_slice_nil (P := Try.prog) W 27 34 none n c 0 0 Try.underlying27
    have HL := hd (show cs = [] by
      rcases Classical.em (cs = []) with h | h
      · exact h
      · obtain ⟨_, _, h2, _⟩ := HV.out (by
          intro e
          have h3 := cellsR_len cs
          rw [e] at h3
          exact h (List.eq_nil_of_length_eq_zero (by simp at h3; omega)))
        cases h2)
    have hz : n = 0 := by rw [← HN.out, HL.out]; rfl
    subst hz
    go_enter Try.func33, Try.ntmps33
    go_wp2
    go_ret
    exact ⟨none, 0, rfl, by rw [HL.out]; exact World.ownsRow_nil _ _ _ _, Below.refl _ _⟩
  · have hnil := fun W => Go.Lib.run_eql_slice_nil (P := Try.prog) W 27 34 (some a) n c 0 0 Try.underlying27
    go_enter Try.func33, Try.ntmps33
    go_wp2_with (at_builtin; refine wpList_append_GX refG _ rfl (.tmp 5) (.tmp 6) rfl w.heap.size (.slice (some ⟨w.heap.size, 0, none⟩) 0 0) 0 [] rfl (World.ownsRow_made w #[] 0 (Nat.le_refl _) (by unfold maxLen; omega) (by simp)) (some a) n c w.heap.size (cellsR cs) rfl (by rw [cellsR_len, HN.out]) (HV.out.below ((Below.refl _ _).alloc (Nat.le_refl _) _)) (cellsR_all cs) (by unfold maxLen; omega) (by omega) (by simp) ?_; intro A1 c1 w1 ho1 hg1 hat1)
    go_ret
    rw [Nat.zero_add, List.nil_append] at ho1
    refine ⟨A1, c1, rfl, ho1, grown_below ((Below.refl _ _).alloc (Nat.le_refl _) _) hg1 (fun j hj => ?_)⟩
    simp [Value.ownBlock] at hj
    omega

/-- Block g holds the refs ds, from its beginning on. -/
def RowG (w : World) (g : Nat) (ds : List RC) : Prop := ∃ cur : Array Value, w.heap[g]? = some (.cells cur 34 (0, 0)) ∧ ∀ (j : Nat) (v : Value), (cellsR ds)[j]? = some v → cur[j]? = some v
set_option maxRecDepth 4000 in
theorem RowG.lt {w : World} {g : Nat} {ds : List RC} (h : RowG w g ds) : g < w.heap.size := by
  obtain ⟨cur, h, _⟩ := h
  exact (Array.getElem?_eq_some_iff.1 h).1
set_option maxRecDepth 4000 in
theorem RowG.keep {w w' : World} {g : Nat} {ds : List RC} (h : RowG w g ds) (hb : Below w.heap.size w w') : RowG w' g ds := by
  have hl := h.lt
  obtain ⟨cur, h, h2⟩ := h
  exact ⟨cur, (hb.block _ hl).trans h, h2⟩
set_option maxRecDepth 4000 in
theorem RowG.cell {w : World} {g : Nat} {ds : List RC} (h : RowG w g ds) {j : Nat} {v : Value} (hv : (cellsR ds)[j]? = some v) : w.cell? ⟨g, j, none⟩ = some v := by
  obtain ⟨cur, h, h2⟩ := h
  simp [World.cell?, h, h2 j v hv]
set_option maxRecDepth 4000 in
theorem RowG.frozen {w : World} {g : Nat} {ds : List RC} (h : RowG w g ds) (j : Nat) : w.frozen? ⟨g, j, none⟩ = false := by
  obtain ⟨cur, h, h2⟩ := h
  simp [World.frozen?, h]
set_option maxRecDepth 4000 in
theorem RowG.vl {w : World} {g : Nat} {ds : List RC} (h : RowG w g ds) : VL w w.heap.size (some ⟨g, 0, none⟩) (cellsR ds) := fun _ => ⟨g, 0, rfl, h.lt, fun k u hk => by rw [Nat.zero_add]; exact h.cell hk⟩
set_option maxRecDepth 4000 in
theorem cellsR_set : ∀ {ds : List RC} {k j : Nat} {c c' : RC} {x : Value}, ds[k]? = some c → j < 11 → c'.row.toList = c.row.toList.set j x → cellsR (ds.set k c') = (cellsR ds).set (k * 11 + j) x
  | [], _, _, _, _, _, h, _, _ => by simp at h
  | d :: r, 0, j, c, c', x, h, hj, hc => by
    simp only [List.getElem?_cons_zero, Option.some.injEq] at h
    subst h
    rw [List.set_cons_zero, cellsR, List.flatMap_cons, cellsR, List.flatMap_cons, Nat.zero_mul, Nat.zero_add, List.set_append_left _ _ (show j < 11 from hj), hc]
  | d :: r, k + 1, j, c, c', x, h, hj, hc => by
    rw [List.getElem?_cons_succ] at h
    have ih := cellsR_set h hj hc
    rw [List.set_cons_succ, cellsR, List.flatMap_cons, cellsR, List.flatMap_cons, ← cellsR, ← cellsR, ih, List.set_append_right _ _ (show 11 ≤ _ by omega)]
    have e : d.row.toList.length = 11 := rfl
    rw [e, show (k + 1) * 11 + j - 11 = k * 11 + j by omega]
set_option maxRecDepth 4000 in
theorem RowG.set {w : World} {g : Nat} {ds : List RC} (h : RowG w g ds) {k j : Nat} {c c' : RC} {x : Value} (hk : ds[k]? = some c) (hj : j < 11) (hc : c'.row.toList = c.row.toList.set j x) : RowG (w.setCell ⟨g, k * 11 + j, none⟩ x) g (ds.set k c') := by
  obtain ⟨cur, h, h2⟩ := h
  refine ⟨_, set_blk w g _ cur (k * 11 + j) x h, fun i v hv => ?_⟩
  rw [cellsR_set hk hj hc, List.getElem?_set] at hv
  rw [Array.getElem?_setIfInBounds]
  split at hv
  · rename_i e
    rw [if_pos e]
    split at hv
    · rename_i hl
      obtain ⟨u, hu⟩ : ∃ u, (cellsR ds)[k * 11 + j]? = some u := ⟨_, List.getElem?_eq_getElem hl⟩
      have := (Array.getElem?_eq_some_iff.1 (h2 _ _ hu)).1
      rw [if_pos this]
      exact hv
    · cases hv
  · rename_i e
    rw [if_neg e]
    exact h2 i v hv
set_option maxRecDepth 4000 in
theorem row_of_own {w : World} {B n c : Nat} {A : Option Addr} {ds : List RC} (h : w.ownsRow B 34 11 (.slice A n c) n (cellsR ds)) (hn : 0 < n) : ∃ g, A = some ⟨g, 0, none⟩ ∧ B ≤ g ∧ RowG w g ds := by
  rcases h.2 with ⟨_, h0⟩ | ⟨g, cap, cur, e, hb, hh, _, _, _, hcur⟩
  · omega
  · injection e with e1
    refine ⟨g, e1, hb, cur, hh, fun j v hv => ?_⟩
    rw [← hcur, List.getElem?_take] at hv
    split at hv
    · simpa using hv
    · cases hv

/-- The four paths of a ref. -/
def pOff : Nat → Nat
  | 0 => 4
  | 1 => 5
  | 2 => 7
  | _ => 9
set_option maxRecDepth 4000 in
theorem pOff_lt : ∀ j, pOff j < 11
  | 0 => by decide
  | 1 => by decide
  | 2 => by decide
  | _ + 3 => by show 9 < 11; decide
def RC.pth (c : RC) : Nat → Option Addr × Nat × Nat
  | 0 => (c.P, c.np, c.cp)
  | 1 => (c.Q, c.nq, c.cq)
  | 2 => (c.A, c.na, c.ca)
  | _ => (c.F, c.nf, c.cf)
def RC.setP (c : RC) (A : Option Addr) (m : Nat) : Nat → RC
  | 0 => { c with P := A, cp := m }
  | 1 => { c with Q := A, cq := m }
  | 2 => { c with A := A, ca := m }
  | _ => { c with F := A, cf := m }
def RefP.pth (r : RefP) : Nat → List Int
  | 0 => r.p
  | 1 => r.q.1
  | 2 => r.a.1
  | _ => r.f.1
set_option maxRecDepth 4000 in
theorem RC.row_pth (c : RC) : ∀ j, c.row.toList[pOff j]? = some (.slice (c.pth j).1 (c.pth j).2.1 (c.pth j).2.2)
  | 0 => rfl
  | 1 => rfl
  | 2 => rfl
  | _ + 3 => rfl
set_option maxRecDepth 4000 in
theorem RC.row_setP (c : RC) (A : Option Addr) (m : Nat) : ∀ j, (c.setP A m j).row.toList = c.row.toList.set (pOff j) (.slice A (c.pth j).2.1 m)
  | 0 => rfl
  | 1 => rfl
  | 2 => rfl
  | _ + 3 => rfl
set_option maxRecDepth 4000 in
theorem RkA.pth {w : World} {c : RC} {r : RefP} (h : RkA w c r) : ∀ j, PathC w (c.pth j).1 (c.pth j).2.1 (c.pth j).2.2 (r.pth j)
  | 0 => h.hp
  | 1 => h.hq
  | 2 => h.haa
  | _ + 3 => h.hf
set_option maxRecDepth 4000 in
theorem RkA.setP {w : World} {c : RC} {r : RefP} (h : RkA w c r) {A : Option Addr} {m : Nat} : ∀ j, PathC w A (c.pth j).2.1 m (r.pth j) → RkA w (c.setP A m j) r
  | 0, g => { h with hp := g }
  | 1, g => { h with hq := g }
  | 2, g => { h with haa := g }
  | _ + 3, g => { h with hf := g }
/-- The lengths of a ref's paths. -/
def tinyR (r : RefP) : Prop := r.p.length ≤ 1000 ∧ r.q.1.length ≤ 1000 ∧ r.a.1.length ≤ 1000 ∧ r.f.1.length ≤ 1000
set_option maxRecDepth 4000 in
theorem tinyR.pth {r : RefP} (h : tinyR r) : ∀ j, (r.pth j).length ≤ 1000
  | 0 => h.1
  | 1 => h.2.1
  | 2 => h.2.2.1
  | _ + 3 => h.2.2.2
set_option maxRecDepth 4000 in
theorem tiny_few {r : RefP} (h : fewR r = true) : tinyR r := by
  obtain ⟨a, b, c, d⟩ := fewR_len h
  exact ⟨by omega, by omega, by omega, by omega⟩

/-- Nothing has changed but blocks of F. -/
structure OffF (F : Nat → Prop) (w w' : World) : Prop where
  os : w'.os = w.os
  tape : w'.tape = w.tape
  output : w'.output = w.output
  size : w.heap.size ≤ w'.heap.size
  block : ∀ k, k < w.heap.size → ¬ F k → w'.heap[k]? = w.heap[k]?
set_option maxRecDepth 4000 in
theorem OffF.refl (F : Nat → Prop) (w : World) : OffF F w w := ⟨rfl, rfl, rfl, Nat.le_refl _, fun _ _ _ => rfl⟩
set_option maxRecDepth 4000 in
theorem OffF.of_off {F : Nat → Prop} {g : Nat} {w w' : World} (h : Off g w w') (hg : F g) : OffF F w w' := ⟨h.os, h.tape, h.output, h.size, fun k hk hF => h.block k hk (fun e => hF (e ▸ hg))⟩
set_option maxRecDepth 4000 in
theorem OffF.of_below {F : Nat → Prop} {w w' : World} (h : Below w.heap.size w w') : OffF F w w' := ⟨h.os, h.tape, h.output, h.size, fun k hk _ => h.block k hk⟩
set_option maxRecDepth 4000 in
theorem OffF.trans {F : Nat → Prop} {a b c : World} (h : OffF F a b) (k : OffF F b c) : OffF F a c := ⟨k.os.trans h.os, k.tape.trans h.tape, k.output.trans h.output, Nat.le_trans h.size k.size, fun i hi hF => (k.block i (Nat.lt_of_lt_of_le hi h.size) hF).trans (h.block i hi hF)⟩
set_option maxRecDepth 4000 in
theorem OffF.below {F : Nat → Prop} {B : Nat} {w w' : World} (h : OffF F w w') (hB : B ≤ w.heap.size) (hF : ∀ k, F k → B ≤ k) : Below B w w' := ⟨h.os, h.tape, h.output, h.size, fun k hk => h.block k (by omega) (fun e => absurd (hF k e) (by omega))⟩
set_option maxRecDepth 4000 in
theorem OffF.high {F : Nat → Prop} {lo : Nat} {w w' : World} (h : OffF F w w') (hF : ∀ k, F k → k < lo) : High lo w w' := ⟨h.size, fun k h1 h2 => h.block k h2 (fun e => absurd (hF k e) (by omega))⟩
/-- Each of ds holds its ref of us, whatever is stored into blocks of F. -/
def HeldR (F : Nat → Prop) (w : World) (ds : List RC) (us : List RefP) : Prop := ∀ W, OffF F w W → RkL W ds us
set_option maxRecDepth 4000 in
theorem HeldR.off {F : Nat → Prop} {w w' : World} {ds : List RC} {us : List RefP} (h : HeldR F w ds us) (ho : OffF F w w') : HeldR F w' ds us := fun W h3 => h W (ho.trans h3)
set_option maxRecDepth 4000 in
theorem HeldR.rk {F : Nat → Prop} {w : World} {ds : List RC} {us : List RefP} (h : HeldR F w ds us) : RkL w ds us := h w (OffF.refl _ _)
set_option maxRecDepth 4000 in
theorem HeldR.plain {w : World} {ds : List RC} {us : List RefP} (h : RkL w ds us) : HeldR (fun _ => False) w ds us := fun _ ho => h.later (ho.below (Nat.le_refl _) (fun _ h => h.elim))
set_option maxRecDepth 4000 in
theorem RkL.set {k : Nat} {w : World} {ds : List RC} {us : List RefP} (h : RkL w ds us) {c : RC} {r : RefP} (hu : us[k]? = some r) (hc : RkA w c r) : RkL w (ds.set k c) us := ⟨by rw [List.length_set]; exact h.1, fun j d a h1 h2 => by
  rw [List.getElem?_set] at h1
  split at h1
  · rename_i e
    subst e
    split at h1
    · injection h1 with h1
      subst h1
      rw [hu] at h2
      injection h2 with h2
      subst h2
      exact hc
    · cases h1
  · exact h.2 j d a h1 h2⟩
/-- What fresh keeps, behind each of its stores. -/
structure Fr (w : World) (F : Nat → Prop) (g : Nat) (us : List RefP) (ds : List RC) (W : World) : Prop where
  row : RowG W g ds
  held : HeldR (fun k => k = g ∨ F k) W ds us
  below : Below w.heap.size w W
  hi : w.heap.size ≤ g
  lo : ∀ k, F k → k < w.heap.size
set_option maxRecDepth 4000 in
theorem Fr.call {w W W' : World} {F : Nat → Prop} {g : Nat} {us : List RefP} {ds : List RC} (h : Fr w F g us ds W) (hb : Below W.heap.size W W') : Fr w F g us ds W' := ⟨h.row.keep hb, h.held.off (OffF.of_below hb), h.below.trans (hb.mono h.below.size), h.hi, h.lo⟩
set_option maxRecDepth 4000 in
theorem Fr.start {w W : World} {F : Nat → Prop} {g : Nat} {us : List RefP} {ds : List RC} (hr : HeldR F w ds us) (h : RowG W g ds) (hb : Below w.heap.size w W) (hg : w.heap.size ≤ g) (hF : ∀ k, F k → k < w.heap.size) : Fr w F g us ds W :=
  ⟨h, fun W' ho => hr W' ⟨ho.os.trans hb.os, ho.tape.trans hb.tape, ho.output.trans hb.output, Nat.le_trans hb.size ho.size, fun k hk hn => (ho.block k (Nat.lt_of_lt_of_le hk hb.size) (fun e => e.elim (fun e => by omega) hn)).trans (hb.block k hk)⟩, hb, hg, hF⟩
set_option maxRecDepth 4000 in
theorem Fr.lr {w W : World} {F : Nat → Prop} {g : Nat} {us : List RefP} {ds : List RC} (h : Fr w F g us ds W) : LR W (some ⟨g, 0, none⟩) ds us := h.held.rk.lr h.row.vl
set_option maxRecDepth 4000 in
theorem Fr.at_ {w W : World} {F : Nat → Prop} {g k : Nat} {us : List RefP} {ds : List RC} (h : Fr w F g us ds W) (hk : k < us.length) : ∃ c r, ds[k]? = some c ∧ us[k]? = some r ∧ RkA W c r := by
  have hk2 : k < ds.length := by rw [h.held.rk.1]; exact hk
  exact ⟨ds[k], us[k], List.getElem?_eq_getElem hk2, List.getElem?_eq_getElem hk, h.held.rk.2 k _ _ (List.getElem?_eq_getElem hk2) (List.getElem?_eq_getElem hk)⟩
set_option maxRecDepth 4000 in
/-- A path is told anew, and stored. -/
theorem Fr.set {w W W' : World} {F : Nat → Prop} {g k j m : Nat} {us : List RefP} {ds : List RC} {c : RC} {r : RefP} {A : Option Addr} (h : Fr w F g us ds W) (hc : ds[k]? = some c) (hu : us[k]? = some r) (hb : Below W.heap.size W W') (hm : (c.pth j).2.1 ≤ m) (hs : Stab W.heap.size W' (fun X => IL X X.heap.size A (r.pth j))) :
    Fr w F g us (ds.set k (c.setP A m j)) (W'.setCell ⟨g, k * 11 + pOff j, none⟩ (.slice A (c.pth j).2.1 m)) := by
  have h' := h.call hb
  have hgl := h.row.lt
  have ho : Off g W' (W'.setCell ⟨g, k * 11 + pOff j, none⟩ (.slice A (c.pth j).2.1 m)) := by
    obtain ⟨cur, h1, _⟩ := h'.row
    exact ⟨rfl, rfl, rfl, by simp [World.setCell], fun i _ hne => Below.heap_setCell _ _ _ _ hne⟩
  have hoF : OffF (fun k => k = g ∨ F k) W' (W'.setCell ⟨g, k * 11 + pOff j, none⟩ (.slice A (c.pth j).2.1 m)) := OffF.of_off ho (.inl rfl)
  refine ⟨h'.row.set hc (pOff_lt j) (RC.row_setP c A m j), fun X hX => (h'.held X (hoF.trans hX)).set hu ?_, (h'.below).trans (ho.below h.hi h'.below.size), h.hi, h.lo⟩
  have hk := (h'.held X (hoF.trans hX)).2 k c r hc hu
  have hp := hk.pth j
  exact hk.setP j ⟨hp.len, hm, hp.max, hs X ((hoF.trans hX).high (fun i hi => hi.elim (fun e => by omega) (fun e => by have := h.lo i e; have := h.below.size; omega)))⟩

set_option maxRecDepth 4000 in
theorem LR.one {w : World} {A : Option Addr} {cs : List RC} {r : RefP} (h : LR w A cs [r]) : ∃ b o c, A = some ⟨b, o, none⟩ ∧ b < w.heap.size ∧ RkA w c r ∧ w.rangeAt b o c.row.toList := by
  obtain ⟨b, o, c, a, h1, h2, _, h4, h5, h6⟩ := h.at_ (k := 0) (by simp)
  simp only [List.getElem?_cons_zero, Option.some.injEq] at h4
  subst h4
  rw [Nat.zero_mul, Nat.add_zero] at h6
  exact ⟨b, o, c, h1, h2, h5, h6⟩
/-- A list of refs told; one whose row, and whose paths, are new. -/
def NewLR (w : World) (us : List RefP) (e : Ending) (w' : World) : Prop := ∃ A n cap cs, e = .returned (.slice A n cap) ∧ us.length = n ∧ n ≤ cap ∧ LR w' A cs us ∧ Below w.heap.size w w'
def NewFr (w : World) (F : Nat → Prop) (us : List RefP) (e : Ending) (w' : World) : Prop := ∃ A n cap ds, e = .returned (.slice A n cap) ∧ us.length = n ∧ n ≤ cap ∧ (0 < n → ∃ g, A = some ⟨g, 0, none⟩ ∧ Fr w F g us ds w') ∧ LR w' A ds us ∧ Below w.heap.size w w'
set_option maxRecDepth 4000 in
theorem NewFr.lr {w w' : World} {F : Nat → Prop} {us : List RefP} {e : Ending} (h : NewFr w F us e w') : NewLR w us e w' := by
  obtain ⟨A, n, cap, ds, h1, h2, h3, _, h5, h6⟩ := h
  exact ⟨A, n, cap, ds, h1, h2, h3, h5, h6⟩
end Go.Proofs.Ytmglnjmnabjjgaa

namespace Go.Proofs.Ytmglnjmnabjjgaa
open Go.RowKit
set_option maxRecDepth 4000 in
/-- A slice literal of one ref. -/
theorem fill_ref (c : RC) (i0 : TypeInfo) (hz1 : i0.size = 11) : Instr.fill (fun i => some (i * i0.size, i0.size)) ((Array.range (1 * i0.size)).map ((Value.agg RC.zero.row).cells[· % (Value.agg RC.zero.row).cells.size]!)) #[(0, Value.agg c.row)].toList = some c.row := by
  rw [hz1]
  have h := Great.fill_whole (s := 11) (by omega) [Value.agg c.row] ((Array.range (1 * 11)).map ((Value.agg RC.zero.row).cells[· % (Value.agg RC.zero.row).cells.size]!)) (by intro v hv; simp at hv; subst hv; rfl) (by simp)
  exact h.trans (by simp [Value.cells])
set_option maxRecDepth 4000 in
theorem run_build_ref (W : World) (c : RC) : (Instr.buildSlice 27 1 #[(0, .agg c.row)]).run Try.prog W = .ok (.slice (some ⟨W.heap.size, 0, none⟩) 1 1) (W.alloc (.cells c.row 34)) := by
  obtain ⟨i0, hi, hz0, hz1, hz2⟩ := info_parts refInfo
  exact run_buildSlice (P := Try.prog) W 27 34 1 #[(0, .agg c.row)] c.row i0 _ Try.underlying27 hi hz0 (by rw [hz1]; decide) (by rw [hz1]; decide) (fill_ref c i0 hz1)
set_option maxRecDepth 4000 in
theorem one_ref (W : World) (c : RC) : VL (W.alloc (.cells c.row 34)) (W.alloc (.cells c.row 34)).heap.size (some ⟨W.heap.size, 0, none⟩) (cellsR [c]) := fun _ =>
  ⟨W.heap.size, 0, rfl, by simp, fun k u hk => by
    rw [cellsR_one] at hk
    rw [Nat.zero_add, World.cell?_alloc_at _ _ _ _ rfl]
    simpa using hk⟩
set_option maxRecDepth 4000 in
theorem wpList_build_ref {ops : Array Oper} {rest : List Oper} {o : Oper} {a : Act} {Q : Exit → Act → World → Prop} {W : World} {c : RC} (x : Operand) (ho : o.op = .buildSlice 27 1 #[(0, x)]) (hgd : o.guard = none) (hx : a.eval x = .agg c.row)
    (hk : wpList Try.prog ops Q rest (a.put o.dst (.slice (some ⟨W.heap.size, 0, none⟩) 1 1)) (W.alloc (.cells c.row 34))) : wpList Try.prog ops Q (o :: rest) a W := by
  refine wpList_plain hgd fun K hK => ?_
  unfold Oper.wp execOp
  simp only [ho, List.map_toArray, List.map_cons, List.map_nil, hx, Sem.run_bind, run_build_ref, Result.andThen_ok]
  exact hK _ _ hk
set_option maxRecDepth 4000 in
theorem exec_load_row {t : TypeId} {n : Nat} (hrow : RowT t n) {a : Act} {o : Oper} {W : World} {g : Nat} {r : Array Value} (h : VarR t W g r) (hn : r.size = n) (x : Operand) (ho : o.op = .load t x) (hx : a.eval x = .pointer (some ⟨g, 0, none⟩)) : (execOp a.eval o).run Try.prog W = .ok (.value (.agg r)) W := by
  obtain ⟨d, h1, h2, h3⟩ := hrow
  have hr := run_loadAt_mid W g 0 t r.toList d (fun i v hi => by rw [Nat.zero_add]; exact h.cell i v (by simpa using hi)) h1 h2 (by rw [h3, ← hn]; simp)
  unfold execOp
  simp only [Instr.loadAt, Instr.sureAddr, Sem.run_bind, Sem.run_pure, Result.andThen_ok] at hr
  simp only [ho, hx, Instr.loadAt, Instr.sureAddr, Sem.run_bind, Sem.run_pure, Result.andThen_ok, hr]
set_option maxRecDepth 4000 in
theorem one_lr {W : World} {d : RC} {r : RefP} (h : RkA W d r) : LR (W.alloc (.cells d.row 34)) (some ⟨W.heap.size, 0, none⟩) [d] [r] := (RkL.one (h.later (ref_var W d).2)).lr (one_ref W d)
end Go.Proofs.Ytmglnjmnabjjgaa

namespace Go.Proofs.Ytmglnjmnabjjgaa
open Go.RowKit
section
variable {w w' : World} {g : Nat} {a b c d e : Value}
end
set_option maxRecDepth 4000 in
/-- A store of one cell, or of more, into a block. -/
theorem wp_store_any {ty : TypeId} {n : Nat} (hsz : (Try.prog.info? ty).map (·.size) = some n) {op : Oper} {a : Act} {W : World} {K : Act → World → Prop} {Q : Exit → Act → World → Prop} {g : Nat} {cs : Array Value} {t : TypeId} (h : W.heap[g]? = some (.cells cs t (0, 0))) (x y : Operand) (ho : op.op = .store ty x y) (hd : op.dst = none)
    (j : Nat) (v : Value) (vs : List Value) (hx : a.eval x = .pointer (some ⟨g, j, none⟩)) (hy : a.eval y = v) (hv : v.cells = vs.toArray) (hn : vs.length = n) (h1 : ∀ u ∈ vs, u.oneCell' = true) (hj : j + vs.length ≤ cs.size)
    (hk : ∀ W', W'.heap[g]? = some (.cells (putAll cs j vs) t (0, 0)) → Off g W W' → K a W') : Oper.wp Try.prog op a W K Q := by
  have hcell : ∀ i, i < vs.length → (W.cell? ⟨g, j + i, none⟩).isSome = true ∧ W.frozen? ⟨g, j + i, none⟩ = false := fun i hi => by
    refine ⟨?_, by simp [World.frozen?, h]⟩
    have hs : j + i < cs.size := by omega
    simp [World.cell?, h, hs]
  have hrun := run_storeCells_cells (P := Try.prog) g j vs 0 W (fun i hi => by simpa using (hcell i hi).1) (fun i hi => by simpa using (hcell i hi).2) h1
  have hst : (storeVar ty ⟨g, j, none⟩ v).run Try.prog W = .ok () (W.setCells g j vs) := by
    cases hq : Try.prog.info? ty with
    | none => simp [hq] at hsz
    | some i =>
      have hs : i.size = vs.length := by simp [hq] at hsz; omega
      simp only [Nat.add_zero] at hrun
      simp [storeVar, sizeOf, typeInfo, hq, hv, hs, hrun]
  unfold Oper.wp execOp
  simp only [ho, hx, hy, Instr.storeAt, Instr.sureAddr, Sem.run_bind, Sem.run_pure, Result.andThen_ok, hst]
  obtain ⟨r1, r2⟩ := setCells_row g _ vs j W _ h
  show K (a.put op.dst undef) _
  rw [hd]
  exact hk _ r1 r2

end Go.Proofs.Ytmglnjmnabjjgaa

namespace Go.Proofs.Ytmglnjmnabjjgaa
open Go.RowKit
set_option maxRecDepth 4000 in
theorem rowT_kind : RowT 60 3 := ⟨.struct (Try.prog.fieldsOf 60), by kernel_rfl, rfl, by kernel_rfl⟩
set_option maxRecDepth 4000 in
theorem kind_one (k : Int) : (kindK k).1.chk.oneCell' = true ∧ (kindK k).1.along.oneCell' = true := by
  unfold kindK
  split
  · exact ⟨rfl, rfl⟩
  · split
    · exact ⟨rfl, rfl⟩
    · split
      · exact ⟨rfl, rfl⟩
      · exact ⟨rfl, rfl⟩
set_option maxRecDepth 4000 in
theorem kc_all {kc : KC} (h : kc.chk.oneCell' = true ∧ kc.along.oneCell' = true) : ∀ u ∈ [Value.int .i64 kc.last, kc.chk, kc.along], u.oneCell' = true := by
  intro u hu
  simp at hu
  rcases hu with rfl | rfl | rfl
  · rfl
  · exact h.1
  · exact h.2
end Go.Proofs.Ytmglnjmnabjjgaa
