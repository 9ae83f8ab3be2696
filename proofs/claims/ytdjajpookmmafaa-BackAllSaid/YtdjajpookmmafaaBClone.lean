/- Lists told anew: what holds of them holds whatever else is stored into a variable. -/
import Derived.Test.YtdjajpookmmafaaBVars
import Derived.Test.YtdjajpookmmafaaCAny
namespace Go.Proofs.Ytdjajpookmmafaa
open Go.RowKit
open Go.WideShapes (add_plain)

/-- Nothing from block lo on has changed. -/
structure High (lo : Nat) (w w' : World) : Prop where
  size : w.heap.size ≤ w'.heap.size
  block : ∀ k, lo ≤ k → k < w.heap.size → w'.heap[k]? = w.heap[k]?
set_option maxRecDepth 4000 in
theorem High.refl (lo : Nat) (w : World) : High lo w w := ⟨Nat.le_refl _, fun _ _ _ => rfl⟩
set_option maxRecDepth 4000 in
theorem High.trans {lo : Nat} {a b c : World} (h : High lo a b) (k : High lo b c) : High lo a c := ⟨Nat.le_trans h.size k.size, fun i h1 h2 => (k.block i h1 (Nat.lt_of_lt_of_le h2 h.size)).trans (h.block i h1 h2)⟩
set_option maxRecDepth 4000 in
theorem High.below {lo : Nat} {w w' : World} (h : Below w.heap.size w w') : High lo w w' := ⟨h.size, fun k _ hk => h.block k hk⟩
set_option maxRecDepth 4000 in
theorem High.off {lo g : Nat} {w w' : World} (h : Off g w w') (hg : g < lo) : High lo w w' := ⟨h.size, fun k h1 h2 => h.block k h2 (by omega)⟩
set_option maxRecDepth 4000 in
theorem High.mono {lo lo' : Nat} {w w' : World} (h : High lo w w') (hl : lo ≤ lo') : High lo' w w' := ⟨h.size, fun k h1 h2 => h.block k (Nat.le_trans hl h1) h2⟩
set_option maxRecDepth 4000 in
theorem High.cell {lo : Nat} {w w' : World} (h : High lo w w') {p : Addr} (h1 : lo ≤ p.block) (h2 : p.block < w.heap.size) : w'.cell? p = w.cell? p := World.cell?_of_block (h.block p.block h1 h2)
set_option maxRecDepth 4000 in
theorem High.frozen {lo : Nat} {w w' : World} (h : High lo w w') {p : Addr} (h1 : lo ≤ p.block) (h2 : p.block < w.heap.size) : w'.frozen? p = w.frozen? p := World.frozen?_of_block (h.block p.block h1 h2)
/-- Whatever is done below block lo, P holds. -/
def Stab (lo : Nat) (w : World) (P : World → Prop) : Prop := ∀ w', High lo w w' → P w'
set_option maxRecDepth 4000 in
theorem Stab.high {lo : Nat} {w w' : World} {P : World → Prop} (h : Stab lo w P) (ho : High lo w w') : Stab lo w' P := fun w2 h2 => h w2 (ho.trans h2)
set_option maxRecDepth 4000 in
theorem Stab.more {lo lo' : Nat} {w : World} {P : World → Prop} (h : Stab lo w P) (hl : lo' ≤ lo) : Stab lo' w P := fun w2 h2 => h w2 (h2.mono hl)
/-- Nothing between lo and hi has changed. -/
structure Mid (lo hi : Nat) (w w' : World) : Prop where
  size : w.heap.size ≤ w'.heap.size
  block : ∀ k, lo ≤ k → k < hi → w'.heap[k]? = w.heap[k]?
set_option maxRecDepth 4000 in
theorem Mid.refl (lo hi : Nat) (w : World) : Mid lo hi w w := ⟨Nat.le_refl _, fun _ _ _ => rfl⟩
set_option maxRecDepth 4000 in
theorem Mid.below {lo hi : Nat} {w W W' : World} (h : Mid lo hi w W) (hb : Below W.heap.size W W') (hh : hi ≤ W.heap.size) : Mid lo hi w W' := ⟨Nat.le_trans h.size hb.size, fun k h1 h2 => (hb.block k (by omega)).trans (h.block k h1 h2)⟩
set_option maxRecDepth 4000 in
theorem Mid.off {lo hi g : Nat} {w W W' : World} (h : Mid lo hi w W) (ho : Off g W W') (hh : hi ≤ W.heap.size) (hg : g < lo ∨ hi ≤ g) : Mid lo hi w W' := ⟨Nat.le_trans h.size ho.size, fun k h1 h2 => (ho.block k (by omega) (by omega)).trans (h.block k h1 h2)⟩
set_option maxRecDepth 4000 in
theorem Mid.high {lo : Nat} {w W W' : World} (h : Mid lo w.heap.size w W) (hh : High lo W W') : High lo w W' := ⟨Nat.le_trans h.size hh.size, fun k h1 h2 => (hh.block k h1 (Nat.lt_of_lt_of_le h2 h.size)).trans (h.block k h1 h2)⟩
/-- An operation told anew: nothing that is done below changes it. -/
def NewOS (w : World) (a : OpP) (e : Ending) (w' : World) : Prop := ∃ c, e = .returned (.agg (OC.row c)) ∧ Stab w.heap.size w' (fun W => OkA W c a) ∧ Below w.heap.size w w'
def NewOES (w : World) (r : OpP × Int) (e : Ending) (w' : World) : Prop := ∃ c, e = .returned (.tuple #[.agg (OC.row c), .int .i64 r.2]) ∧ Stab w.heap.size w' (fun W => OkA W c r.1) ∧ Below w.heap.size w w'
set_option maxRecDepth 4000 in
theorem Stab.now {lo : Nat} {w : World} {P : World → Prop} (h : Stab lo w P) : P w := h w (High.refl _ _)
/-- A list of n told anew; P: what is said of its place. -/
def NewL (w : World) (n : Nat) (P : World → Option Addr → Prop) (e : Ending) (w' : World) : Prop :=
  ∃ A c, e = .returned (.slice A n c) ∧ n ≤ c ∧ Stab w.heap.size w' (fun W => P W A) ∧ Below w.heap.size w w'

set_option maxRecDepth 4000 in
theorem IL.high {lo : Nat} {w w' : World} {A : Option Addr} {l : List Int} (h : IL w w.heap.size A l) (hA : ∀ b o, A = some ⟨b, o, none⟩ → lo ≤ b) (ho : High lo w w') : IL w' w'.heap.size A l := fun hn => by
  obtain ⟨b, o, e, hb, hc⟩ := h hn
  exact ⟨b, o, e, Nat.lt_of_lt_of_le hb ho.size, fun k hk => (ho.cell (p := ⟨b, o + k, none⟩) (hA b o e) hb).trans (hc k hk)⟩
set_option maxRecDepth 4000 in
theorem own_stab {w : World} {B n c : Nat} {A : Option Addr} {l : List Int} (ho : OwnI w B (.slice A n c) l) : Stab B w (fun W => IL W W.heap.size A l) := fun W hoff => by
  have hown := ho.own
  obtain ⟨A', c', e0, h1, _, h2⟩ := ho.open_
  injection e0 with e1 _ _
  subst e1
  refine h2.high (fun b o e => ?_) hoff
  rcases hown.2 with ⟨e1, _⟩ | ⟨g', cap, cur, e1, hbg, _⟩
  · injection e1 with e1
    rw [e] at e1; cases e1
  · injection e1 with e1
    rw [e] at e1
    injection e1 with e1
    injection e1 with e2
    omega
set_option maxRecDepth 4000 in
theorem clonei_at (A : Option Addr) (l : List Int) (n c : Nat) (w : World) (hn : l.length = n) (hl : n ≤ 1000) (hp : IL w w.heap.size A l) :
    Calls Try.prog 45 #[.slice A n c] w (NewL w n (fun W A' => IL W W.heap.size A' l)) := by
  refine (clone_any A l n c w hn hl hp).mono ?_
  rintro e w' ⟨v, rfl, ho, hb⟩
  have hown := ho.own
  obtain ⟨A', c', rfl, h1, _, h2⟩ := ho.open_
  subst hn
  refine ⟨A', c', rfl, h1, fun W' hoff => h2.high (fun b o e => ?_) hoff, hb⟩
  rcases hown.2 with ⟨e1, _⟩ | ⟨g', cap, cur, e1, hbg, _⟩
  · injection e1 with e1
    rw [e] at e1; cases e1
  · injection e1 with e1
    rw [e] at e1
    injection e1 with e1
    injection e1 with e2
    omega
set_option maxRecDepth 4000 in
set_option maxHeartbeats 2000000 in
theorem clonep_at (A : Option Addr) (l : List Pr) (n c : Nat) (w : World) (hn : l.length = n) (hl : n ≤ 4398046511104) (hp : PL w w.heap.size A l) :
    Calls Try.prog 46 #[.slice A n c] w (NewL w n (fun W A' => PL W W.heap.size A' l)) := by
  subst hn
  have hv : VL w w.heap.size A (pv l) := hp.vl
  have HV := hd hv
  clear hp hv
  rcases A with _ | a
  · have hnil := fun W => Go.Lib.run_eql_slice_nil (P := Try.prog) W 23 79 none l.length c 0 0 Try.underlying23
    have HL := hd (show l = [] by
      rcases Classical.em (l = []) with h | h
      · exact h
      · obtain ⟨_, _, h, _⟩ := HV.out (by intro e; have := congrArg List.length e; rw [pv_len] at this; exact h (by first | exact List.eq_nil_of_length_eq_zero (by simp at this; omega) | (simp at this; exact this))); cases h)
    go_enter Try.func46, Try.ntmps46
    go_wp2
    go_ret
    refine ⟨none, 0, by rw [HL.out]; rfl, by rw [HL.out]; simp, fun W' ho => ?_, Below.refl _ _⟩
    rw [HL.out]
    first | exact PL.none _ _ _ | exact VL.nil _ _ _
  · have hnil := fun W => Go.Lib.run_eql_slice_nil (P := Try.prog) W 23 79 (some a) l.length c 0 0 Try.underlying23
    go_enter Try.func46, Try.ntmps46
    go_wp2_with (at_builtin; refine wpList_append_G propG _ rfl (.tmp 5) (.tmp 6) rfl w.heap.size (.slice (some ⟨w.heap.size, 0, none⟩) 0 0) 0 [] rfl (World.ownsRow_made w #[] 0 (Nat.le_refl _) (by unfold maxLen; omega) (by simp)) (some a) l.length c w.heap.size (pv l) rfl (by rw [pv_len] <;> omega) (HV.out.below ((Below.refl _ _).alloc (Nat.le_refl _) _)) (pv_one l) (by unfold maxLen; omega) (by omega) (by simp) rfl ?_; intro g cap w1 ho1 hg1)
    go_ret
    rw [Nat.zero_add, List.nil_append] at ho1
    have h1 := own_fresh ho1
    have hb1 : Below w.heap.size w w1 := ((Below.refl _ _).alloc (Nat.le_refl _) _).grown hg1 (by simp) (fun j hj => by simp [Value.ownBlock] at hj; omega)
    refine ⟨some ⟨g, 0, none⟩, cap, rfl, h1.2.2.2, fun W' ho => ?_, hb1⟩
    have hvp : VP (fun b => b < W'.heap.size) W' (some ⟨g, 0, none⟩) (pv l) := fun k u hu => by
      have hf := h1.2.2.1 k u hu
      exact ⟨g, 0, rfl, Nat.lt_of_lt_of_le h1.2.1 ho.size, by rw [Nat.zero_add]; exact ⟨(ho.cell (p := ⟨g, k, none⟩) h1.1 h1.2.1).trans hf.1, (ho.frozen (p := ⟨g, k, none⟩) h1.1 h1.2.1).trans hf.2⟩⟩
    exact hvp.pl (fun b hb => hb)
set_option maxRecDepth 4000 in
set_option maxHeartbeats 2000000 in
theorem cloner_at (A : Option Addr) (l : List Int) (n c : Nat) (w : World) (hn : l.length = n) (hl : n ≤ 35184372088832) (hp : VL w w.heap.size A (rv l)) :
    Calls Try.prog 47 #[.slice A n c] w (NewL w n (fun W A' => VL W W.heap.size A' (rv l))) := by
  subst hn
  have hv : VL w w.heap.size A (rv l) := hp
  have HV := hd hv
  clear hp hv
  rcases A with _ | a
  · have hnil := fun W => Go.Lib.run_eql_slice_nil (P := Try.prog) W 24 21 none l.length c 0 0 Try.underlying24
    have HL := hd (show l = [] by
      rcases Classical.em (l = []) with h | h
      · exact h
      · obtain ⟨_, _, h, _⟩ := HV.out (by intro e; have := congrArg List.length e; rw [rv_len] at this; exact h (by first | exact List.eq_nil_of_length_eq_zero (by simp at this; omega) | (simp at this; exact this))); cases h)
    go_enter Try.func47, Try.ntmps47
    go_wp2
    go_ret
    refine ⟨none, 0, by rw [HL.out]; rfl, by rw [HL.out]; simp, fun W' ho => ?_, Below.refl _ _⟩
    rw [HL.out]
    first | exact PL.none _ _ _ | exact VL.nil _ _ _
  · have hnil := fun W => Go.Lib.run_eql_slice_nil (P := Try.prog) W 24 21 (some a) l.length c 0 0 Try.underlying24
    go_enter Try.func47, Try.ntmps47
    go_wp2_with (at_builtin; refine wpList_append_G runeG _ rfl (.tmp 5) (.tmp 6) rfl w.heap.size (.slice (some ⟨w.heap.size, 0, none⟩) 0 0) 0 [] rfl (World.ownsRow_made w #[] 0 (Nat.le_refl _) (by unfold maxLen; omega) (by simp)) (some a) l.length c w.heap.size (rv l) rfl (by rw [rv_len] <;> omega) (HV.out.below ((Below.refl _ _).alloc (Nat.le_refl _) _)) (rv_one l) (by unfold maxLen; omega) (by omega) (by simp) rfl ?_; intro g cap w1 ho1 hg1)
    go_ret
    rw [Nat.zero_add, List.nil_append] at ho1
    have h1 := own_fresh ho1
    have hb1 : Below w.heap.size w w1 := ((Below.refl _ _).alloc (Nat.le_refl _) _).grown hg1 (by simp) (fun j hj => by simp [Value.ownBlock] at hj; omega)
    refine ⟨some ⟨g, 0, none⟩, cap, rfl, h1.2.2.2, fun W' ho => ?_, hb1⟩
    have hvp : VP (fun b => b < W'.heap.size) W' (some ⟨g, 0, none⟩) (rv l) := fun k u hu => by
      have hf := h1.2.2.1 k u hu
      exact ⟨g, 0, rfl, Nat.lt_of_lt_of_le h1.2.1 ho.size, by rw [Nat.zero_add]; exact ⟨(ho.cell (p := ⟨g, k, none⟩) h1.1 h1.2.1).trans hf.1, (ho.frozen (p := ⟨g, k, none⟩) h1.1 h1.2.1).trans hf.2⟩⟩
    exact hvp.vl (fun b hb => hb)

end Go.Proofs.Ytdjajpookmmafaa
