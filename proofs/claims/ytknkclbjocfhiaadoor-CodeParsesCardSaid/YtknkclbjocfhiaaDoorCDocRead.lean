/- The document's reader of a text: fail, next, take, letter. The document's reader of a text: properties. The document's reader of a text: a node, Parse. The document's Parse. -/
import Derived.Test.YtknkclbjocfhiaaDoorCReader
import Derived.Test.YtknkclbjocfhiaaDoorGRUnq
import Derived.Deep.CutRange
import Derived.Test.YtknkclbjocfhiaaDoorCParsed
namespace Go.Proofs.YtknkclbjocfhiaaDoor
open Go.RowKit

/-- The reader in block R has read s up to i; what is wrong, and where. -/
structure Rf (R : Nat) (s : ByteArray) (i : Nat) (e p : Int) (w : World) : Prop where
  blk : w.heap[R]? = some (.cells #[.string s, .int .i64 i, .int .i64 e, .int .i64 p] 63 (0, 0))
section
variable {R i : Nat} {e p : Int} {s : ByteArray} {w w' : World}
set_option maxRecDepth 4000 in
theorem Rf.lt (h : Rf R s i e p w) : R < w.heap.size := lt_of_block h.blk
set_option maxRecDepth 4000 in
theorem Rf.cells (h : Rf R s i e p w) : w.cell? ⟨R, 0, none⟩ = some (.string s) ∧ w.cell? ⟨R, 1, none⟩ = some (.int .i64 i) ∧ w.cell? ⟨R, 2, none⟩ = some (.int .i64 e) ∧ w.cell? ⟨R, 3, none⟩ = some (.int .i64 p) := by
  refine ⟨?_, ?_, ?_, ?_⟩ <;> (rw [Lib.cell_of_heap h.blk]; rfl)
set_option maxRecDepth 4000 in
theorem Rf.frees (h : Rf R s i e p w) : w.frozen? ⟨R, 1, none⟩ = false ∧ w.frozen? ⟨R, 2, none⟩ = false ∧ w.frozen? ⟨R, 3, none⟩ = false := ⟨Lib.frozen_of_heap h.blk 1, Lib.frozen_of_heap h.blk 2, Lib.frozen_of_heap h.blk 3⟩
set_option maxRecDepth 4000 in
theorem Rf.below (h : Rf R s i e p w) (hb : Below w.heap.size w w') : Rf R s i e p w' := ⟨(hb.block _ h.lt).trans h.blk⟩
set_option maxRecDepth 4000 in
theorem Rf.drewN (h : Rf R s i e p w) (n : Nat) : Rf R s i e p (w.drewN n) := ⟨h.blk⟩
set_option maxRecDepth 4000 in
theorem Rf.set (h : Rf R s i e p w) (j : Nat) {z : Int} (hz : z = (j : Int)) : Rf R s j e p (w.setCell ⟨R, 1, none⟩ (.int .i64 z)) := hz ▸ ⟨setBlk h.blk⟩
set_option maxRecDepth 4000 in
theorem Rf.fail (h : Rf R s i e p w) (e' p' : Int) : Rf R s i e' p' ((w.setCell ⟨R, 2, none⟩ (.int .i64 e')).setCell ⟨R, 3, none⟩ (.int .i64 p')) := ⟨setBlk (setBlk h.blk)⟩
set_option maxRecDepth 4000 in
theorem Rf.far {q k : Nat} (h : Rf R s i e p w) (hq : R ≠ q) (x : Value) : Rf R s i e p (w.setCell ⟨q, k, none⟩ x) := ⟨(Below.heap_setCell _ _ _ _ (by simpa using hq)).trans h.blk⟩
set_option maxRecDepth 4000 in
theorem Rf.alloc (h : Rf R s i e p w) (o : Obj) : Rf R s i e p (w.alloc o) := h.below ((Below.refl _ _).alloc (Nat.le_refl _) _)
end
def rfpos (R : Nat) (w : World) : Nat := match w.cell? ⟨R, 1, none⟩ with | some (.int _ i) => i.toNat | _ => 0
set_option maxRecDepth 4000 in
theorem Rf.pos_eq {R i : Nat} {e p : Int} {s : ByteArray} {w : World} (h : Rf R s i e p w) : rfpos R w = i := by unfold rfpos; rw [h.cells.2.1]; simp
def RDid (R : Nat) (s : ByteArray) (j : Nat) (er p : Int) (v : Value) (w : World) (e : Ending) (w' : World) : Prop := e = .returned v ∧ Rf R s j er p w' ∧ OffB R w.heap.size w w'

set_option maxRecDepth 4000 in
theorem rfail_ok (R : Nat) (s : ByteArray) (i : Nat) (p er q : Int) (w : World) (h : Rf R s i 0 p w) :
    Calls Tryd.prog 30 #[.pointer (some ⟨R, 0, none⟩), .int .i64 er, .int .i64 q] w (RDid R s i er q (.tuple #[]) w) := by
  obtain ⟨x0, x1, x2, x3⟩ := h.cells
  obtain ⟨f1, f2, f3⟩ := h.frees
  have HR := hd h
  clear h
  go_enter Tryd.func30, Tryd.ntmps30
  go_wp2
  go_end0
  exact ⟨rfl, HR.out.fail er q, ((OffB.refl _ _ _).set 2 _).set 3 _⟩
set_option maxRecDepth 4000 in
theorem rfail_no (R : Nat) (s : ByteArray) (i : Nat) (e p er q : Int) (w : World) (h : Rf R s i e p w) (he : e ≠ 0) :
    Calls Tryd.prog 30 #[.pointer (some ⟨R, 0, none⟩), .int .i64 er, .int .i64 q] w (RDid R s i e p (.tuple #[]) w) := by
  obtain ⟨x0, x1, x2, x3⟩ := h.cells
  have HR := hd h
  have hb : (e == 0) = false := by simpa using he
  clear h he
  go_enter Tryd.func30, Tryd.ntmps30
  go_wp2
  go_end0
  exact ⟨rfl, HR.out, OffB.refl _ _ _⟩
/-- The byte that stands here, 0 at the end. -/
def nextZ (s : ByteArray) (i : Nat) : Int := match atB s i with | some c => c.toNat | none => 0
set_option maxRecDepth 4000 in
theorem nextZ_some {s : ByteArray} {i : Nat} {c : UInt8} (h : atB s i = some c) : nextZ s i = c.toNat := by unfold nextZ; rw [h]
set_option maxRecDepth 4000 in
theorem nextZ_is {s : ByteArray} {i : Nat} {c : UInt8} (hc : c.toNat ≠ 0) : (nextZ s i == (c.toNat : Int)) = decide (atB s i = some c) := by
  unfold nextZ
  cases h : atB s i with
  | none =>
    have : ((0 : Int) == (c.toNat : Int)) = false := by rw [beq_eq_false_iff_ne]; omega
    rw [this]; simp
  | some b =>
    by_cases e : b = c
    · subst e; simp
    · have := byte_ne e
      simp only [Option.some.injEq, e, decide_false]
      exact beq_eq_false_iff_ne.2 this
set_option maxRecDepth 4000 in
set_option maxHeartbeats 1000000 in
theorem rfnext_any (R : Nat) (s : ByteArray) (i : Nat) (e p : Int) (w : World) (h : Rf R s i e p w) (z : Int) (hz : nextZ s i = z) (hi : i ≤ s.size) :
    Calls Tryd.prog 53 #[.pointer (some ⟨R, 0, none⟩)] w (Quiet (.int .u8 z) w) := by
  obtain ⟨x0, x1, x2, x3⟩ := h.cells
  clear h
  by_cases hlt : i < s.size
  · have hlt' : (i : Int) < (s.size : Int) := by omega
    have HZ := hd (show (s[i].toNat : Int) = z by rw [← hz, nextZ_some (atB_some hlt)])
    clear hz hi
    go_enter Tryd.func53, Tryd.ntmps53
    go_wp2_with fail
    go_quiet (fail)
    go_wp2_with fail
    go_quiet (fail)
    go_wp2
    go_ret
    exact ret_quiet (int_eq HZ.out) (by first | exact ⟨_, rfl⟩ | exact ⟨_, World.drewN_drewN _ _ _⟩ | exact ⟨_, (World.drewN_drewN _ _ _).trans (World.drewN_drewN _ _ _)⟩)
  · have hlt' : decide (i < s.size) = false := decide_eq_false hlt
    have HZ := hd (show (0 : Int) = z by rw [← hz]; unfold nextZ; rw [atB_none (by omega)])
    clear hz hlt hi
    go_enter Tryd.func53, Tryd.ntmps53
    go_wp2_with fail
    go_quiet (fail)
    go_wp2
    go_ret
    exact ret_quiet (int_eq HZ.out) (by first | exact ⟨_, rfl⟩ | exact ⟨_, World.drewN_drewN _ _ _⟩ | exact ⟨_, (World.drewN_drewN _ _ _).trans (World.drewN_drewN _ _ _)⟩)
set_option maxRecDepth 4000 in
theorem rletter_any (_c z : Int) (b : Bool) (hb : (decide (97 ≤ z) && decide (z ≤ 122)) = b) (w : World) :
    Calls Tryd.prog 77 #[.int .u8 z] w (Pure (.bool b) w) := by
  have HB := hd hb
  by_cases h1 : 97 ≤ z
  · have HF := hd (show decide (z ≤ 122) = b by rw [← hb]; simp [h1])
    clear hb
    go_enter Tryd.func77, Tryd.ntmps77
    go_wp2
    go_ret
    exact pure_ret (bool_eq HF.out)
  · have h2 : decide (97 ≤ z) = false := decide_eq_false h1
    have HF := hd (show false = b by rw [← hb, h2]; rfl)
    clear hb h1
    go_enter Tryd.func77, Tryd.ntmps77
    go_wp2
    go_ret
    exact pure_ret (bool_eq HF.out)
set_option maxRecDepth 4000 in
set_option maxHeartbeats 1000000 in
theorem rftake_yes (R : Nat) (s : ByteArray) (i : Nat) (c : UInt8) (z : Int) (hz : z = c.toNat) (e p : Int) (w : World) (h : Rf R s i e p w) (hs : s.size ≤ 1000000) (hc : atB s i = some c) :
    Calls Tryd.prog 56 #[.pointer (some ⟨R, 0, none⟩), .int .u8 z] w (RDid R s (i + 1) e p (.tuple #[]) w) := by
  have hlt := atB_lt hc
  have hlt' : (i : Int) < (s.size : Int) := by omega
  have hne : ((i : Int) == (s.size : Int)) = false := by rw [beq_eq_false_iff_ne]; omega
  have HR := hd h
  have hx : (s[i].toNat : Int) = z := by
    rw [atB_some hlt] at hc
    injection hc with hc
    rw [hc, hz]
  obtain ⟨x, hx2⟩ : ∃ x : Int, (s[i].toNat : Int) = x := ⟨_, rfl⟩
  have hxz : (x != z) = false := by rw [← hx2, hx]; simp
  obtain ⟨x0, x1, x2, x3⟩ := h.cells
  clear h hc hz hx
  go_enter Tryd.func56, Tryd.ntmps56
  go_wp2_with fail
  go_quiet (fail)
  obtain ⟨y0, y1, y2, y3⟩ := (HR.out.drewN nq).cells
  obtain ⟨f1, f2, f3⟩ := (HR.out.drewN nq).frees
  go_wp2
  go_end0
  exact ⟨rfl, (HR.out.drewN nq).set (i + 1) (by omega), ((OffB.refl _ _ _).drewN nq).set 1 _⟩
set_option maxRecDepth 4000 in
set_option maxHeartbeats 1000000 in
theorem rftake_no (R : Nat) (s : ByteArray) (i : Nat) (c : UInt8) (z : Int) (hz : z = c.toNat) (p : Int) (w : World) (h : Rf R s i 0 p w) (hi : i ≤ s.size) (hc : atB s i ≠ some c) :
    Calls Tryd.prog 56 #[.pointer (some ⟨R, 0, none⟩), .int .u8 z] w (RDid R s i 11 i (.tuple #[]) w) := by
  have HR := hd h
  have HC := hd (fun (X : World) (hX : Rf R s i 0 p X) => rfail_ok R s i p 11 i X hX)
  obtain ⟨x0, x1, x2, x3⟩ := h.cells
  by_cases hlt : i < s.size
  · have hlt' : (i : Int) < (s.size : Int) := by omega
    have hne : ((i : Int) == (s.size : Int)) = false := by rw [beq_eq_false_iff_ne]; omega
    obtain ⟨x, hx2⟩ : ∃ x : Int, (s[i].toNat : Int) = x := ⟨_, rfl⟩
    have hxz : (x != z) = true := by
      rw [← hx2, hz, bne_iff_ne]
      rw [atB_some hlt] at hc
      exact byte_ne fun e => hc (by rw [e])
    clear h hc hz
    go_enter Tryd.func56, Tryd.ntmps56
    go_wp2_with fail
    go_quiet (fail)
    obtain ⟨y0, y1, y2, y3⟩ := (HR.out.drewN nq).cells
    go_wp2_with fail
    refine (HC.out _ (HR.out.drewN nq)).mono ?_
    rintro e' w' ⟨rfl, hr, ho⟩
    go_wp2
    go_end0
    exact ⟨rfl, hr, ((OffB.refl _ _ _).drewN nq).trans ho⟩
  · have hne : ((i : Int) == (s.size : Int)) = true := by rw [beq_iff_eq]; omega
    clear h hc hz hlt
    go_enter Tryd.func56, Tryd.ntmps56
    go_wp2_with fail
    go_quiet (fail)
    obtain ⟨y0, y1, y2, y3⟩ := (HR.out.drewN nq).cells
    go_wp2_with fail
    refine (HC.out _ (HR.out.drewN nq)).mono ?_
    rintro e' w' ⟨rfl, hr, ho⟩
    go_wp2
    go_end0
    exact ⟨rfl, hr, ((OffB.refl _ _ _).drewN nq).trans ho⟩
def RBad (R : Nat) (s : ByteArray) (i : Nat) (e p : Int) (w : World) (e' : Ending) (w' : World) : Prop := e' = .returned (.tuple #[]) ∧ OffB R w.heap.size w w' ∧ ∃ j, i ≤ j ∧ j ≤ s.size ∧ Rf R s j e p w'
set_option maxRecDepth 4000 in
/-- With an error, a byte may be passed over, no more. -/
theorem rftake_bad (R : Nat) (s : ByteArray) (i : Nat) (c : UInt8) (z : Int) (hz : z = c.toNat) (e p : Int) (w : World) (h : Rf R s i e p w) (he : e ≠ 0) (hi : i ≤ s.size) (hs : s.size ≤ 1000000) :
    Calls Tryd.prog 56 #[.pointer (some ⟨R, 0, none⟩), .int .u8 z] w (RBad R s i e p w) := by
  by_cases hc : atB s i = some c
  · exact (rftake_yes R s i c z hz e p w h hs hc).mono fun _ _ ⟨h1, h2, h3⟩ => ⟨h1, h3, i + 1, Nat.le_succ i, atB_lt hc, h2⟩
  · have HR := hd h
    have HC := hd (fun (X : World) (hX : Rf R s i e p X) => rfail_no R s i e p 11 i X hX he)
    obtain ⟨x0, x1, x2, x3⟩ := h.cells
    by_cases hlt : i < s.size
    · have hlt' : (i : Int) < (s.size : Int) := by omega
      have hne : ((i : Int) == (s.size : Int)) = false := by rw [beq_eq_false_iff_ne]; omega
      obtain ⟨x, hx2⟩ : ∃ x : Int, (s[i].toNat : Int) = x := ⟨_, rfl⟩
      have hxz : (x != z) = true := by
        rw [← hx2, hz, bne_iff_ne]
        rw [atB_some hlt] at hc
        exact byte_ne fun e => hc (by rw [e])
      clear h hc hz he
      go_enter Tryd.func56, Tryd.ntmps56
      go_wp2_with fail
      go_quiet (fail)
      obtain ⟨y0, y1, y2, y3⟩ := (HR.out.drewN nq).cells
      go_wp2_with fail
      refine (HC.out _ (HR.out.drewN nq)).mono ?_
      rintro e' w' ⟨rfl, hr, ho⟩
      go_wp2
      go_end0
      exact ⟨rfl, ((OffB.refl _ _ _).drewN nq).trans ho, i, Nat.le_refl _, hi, hr⟩
    · have hne : ((i : Int) == (s.size : Int)) = true := by rw [beq_iff_eq]; omega
      clear h hc hz hlt he
      go_enter Tryd.func56, Tryd.ntmps56
      go_wp2_with fail
      go_quiet (fail)
      obtain ⟨y0, y1, y2, y3⟩ := (HR.out.drewN nq).cells
      go_wp2_with fail
      refine (HC.out _ (HR.out.drewN nq)).mono ?_
      rintro e' w' ⟨rfl, hr, ho⟩
      go_wp2
      go_end0
      exact ⟨rfl, ((OffB.refl _ _ _).drewN nq).trans ho, i, Nat.le_refl _, hi, hr⟩

end Go.Proofs.YtknkclbjocfhiaaDoor

namespace Go.Proofs.YtknkclbjocfhiaaDoor
open Go.RowKit

/-- What is wrong with one property more. -/
theorem chk_snoc {ps : List Pr} (hps : chk ps = 0) (K V : ByteArray) (hK0 : 1 ≤ K.size) (hK : K.data.toList.all isLet = true) (hV : V.data.toList.all isVal = true) :
    chk (ps ++ [(K, V)]) = if ps.length = 16 then 2 else if 16 < K.size ∨ 32 < V.size then 3 else if 0 < ps.length ∧ leB K (prAt ps (ps.length - 1)).1 = true then 1 else 0 := by
  have hl := chk_len hps
  have hk : keyB K = decide (K.size ≤ 16) := by unfold keyB; rw [hK, decide_eq_true hK0]; simp
  have hv : valB V = decide (V.size ≤ 32) := by unfold valB; rw [hV]; simp
  have hlast : prAt (ps ++ [(K, V)]) ps.length = (K, V) := by unfold prAt; simp [List.getD]
  by_cases h16 : ps.length = 16
  · rw [if_pos h16]; unfold chk; rw [if_pos (by simp; omega)]
  · rw [if_neg h16]
    unfold chk
    rw [if_neg (by simp; omega)]
    have hz : ∀ j, j < ps.length → stepE (ps ++ [(K, V)]) j = 0 := fun j hj => by
      have h1 : stepE ps j = 0 := by
        unfold chk at hps
        rw [if_neg (by omega)] at hps
        exact firstE_zero hps j hj
      have e1 : prAt (ps ++ [(K, V)]) j = prAt ps j := by unfold prAt; simp [List.getD, List.getElem?_append_left hj]
      have e2 : prAt (ps ++ [(K, V)]) (j - 1) = prAt ps (j - 1) := by unfold prAt; simp [List.getD, List.getElem?_append_left (show j - 1 < ps.length by omega)]
      unfold stepE at h1 ⊢
      rw [e1, e2]; exact h1
    have hs : stepE (ps ++ [(K, V)]) ps.length = if 16 < K.size ∨ 32 < V.size then 3 else if 0 < ps.length ∧ leB K (prAt ps (ps.length - 1)).1 = true then 1 else 0 := by
      by_cases a : 16 < K.size
      · have hk2 : keyB K = false := by rw [hk]; exact decide_eq_false (by omega)
        rw [if_pos (.inl a)]
        unfold stepE
        rw [hlast, hk2]; rfl
      · have hk2 : keyB K = true := by rw [hk]; exact decide_eq_true (by omega)
        by_cases b : 32 < V.size
        · have hv2 : valB V = false := by rw [hv]; exact decide_eq_false (by omega)
          rw [if_pos (.inr b)]
          unfold stepE
          rw [hlast, hk2, hv2]; rfl
        · have hv2 : valB V = true := by rw [hv]; exact decide_eq_true (by omega)
          rw [if_neg (by omega)]
          unfold stepE
          rw [hlast, hk2, hv2]
          by_cases c : 0 < ps.length
          · have e2 : prAt (ps ++ [(K, V)]) (ps.length - 1) = prAt ps (ps.length - 1) := by unfold prAt; simp [List.getD, List.getElem?_append_left (show ps.length - 1 < ps.length by omega)]
            rw [e2]; simp [c]
          · simp [c]
    by_cases hne : stepE (ps ++ [(K, V)]) ps.length = 0
    · rw [← hs, hne]
      refine firstE_none _ fun j hj => ?_
      rw [List.length_append, List.length_singleton] at hj
      rcases Nat.lt_or_ge j ps.length with h | h
      · exact hz j h
      · rw [show j = ps.length by omega]; exact hne
    · rw [← hs]
      exact firstE_at _ ps.length (by simp) hz hne

set_option maxRecDepth 4000 in
theorem isEmpty_of' (S : ByteArray) : S.toList.isEmpty = decide (S.size = 0) := by
  rw [ByteArray.toList_eq]
  have := data_size S
  cases h : S.data.toList with
  | nil => rw [h] at this; exact (decide_eq_true this.symm).symm
  | cons a l => rw [h] at this; exact (decide_eq_false (by simp only [List.length_cons] at this; omega)).symm
/-- What props leaves. -/
def RPropd (B R : Nat) (s : ByteArray) (p : Int) (r : Res (List Pr)) (w : World) (e : Ending) (w' : World) : Prop :=
  OffB R B w w' ∧ match r with
  | .bad q er => ∃ k A n c, e = .returned (.slice A n c) ∧ k ≤ s.size ∧ Rf R s k er q w'
  | .ok l j => Rf R s j 0 p w' ∧ ∃ A c, e = .returned (.slice A l.length c) ∧ w'.ownsRow B 50 2 (.slice A l.length c) l.length (pv l)
def PropRel (B R : Nat) (s : ByteArray) (i : Nat) (p : Int) (w : World) (v : Value) (wr : World) : Prop :=
  OffB R B w wr ∧ ((∃ ps k A c, v = .slice A ps.length c ∧ k ≤ s.size ∧ Rf R s k 0 p wr ∧ wr.ownsRow B 50 2 (.slice A ps.length c) ps.length (pv ps) ∧ chk ps = 0 ∧ propsP s.data.toList [] i = propsP s.data.toList ps k) ∨
    (∃ k er q, er ≠ 0 ∧ k ≤ s.size ∧ Rf R s k er (q : Nat) wr ∧ propsP s.data.toList [] i = .bad q er))

set_option maxRecDepth 4000 in
theorem vz_cases (s : ByteArray) (m : Nat) (z : Int) (hz : nextZ s m = z) :
    (∃ b, atB s m = some b ∧ isVal b = true ∧ (decide (97 ≤ z) && decide (z ≤ 122)) = true) ∨
    (∃ b, atB s m = some b ∧ isVal b = true ∧ (decide (97 ≤ z) && decide (z ≤ 122)) = false ∧ 48 ≤ z ∧ z ≤ 57) ∨
    (∃ b, atB s m = some b ∧ isVal b = true ∧ (decide (97 ≤ z) && decide (z ≤ 122)) = false ∧ z = 45) ∨
    ((∀ b, atB s m = some b → isVal b = false) ∧ (decide (97 ≤ z) && decide (z ≤ 122)) = false ∧ ¬ 48 ≤ z ∧ z ≠ 45) ∨
    ((∀ b, atB s m = some b → isVal b = false) ∧ (decide (97 ≤ z) && decide (z ≤ 122)) = false ∧ 48 ≤ z ∧ ¬ z ≤ 57 ∧ z ≠ 45) := by
  cases hc : atB s m with
  | none =>
    have : z = 0 := by rw [← hz]; unfold nextZ; rw [hc]
    subst this
    exact .inr (.inr (.inr (.inl ⟨(fun b h => by cases h), by decide, by decide, by decide⟩)))
  | some b =>
    have hzb : z = (b.toNat : Int) := by rw [← hz, nextZ_some hc]
    have e1 : isLet b = (decide (97 ≤ z) && decide (z ≤ 122)) := by unfold isLet; rw [hzb]
    have e2 : isVal b = (isLet b || (decide (48 ≤ z) && decide (z ≤ 57)) || (z == 45)) := by unfold isVal isDig; rw [hzb]
    by_cases a : 97 ≤ z ∧ z ≤ 122
    · exact .inl ⟨b, rfl, by rw [e2, e1]; simp [a.1, a.2], by simp [a.1, a.2]⟩
    · have hl : (decide (97 ≤ z) && decide (z ≤ 122)) = false := by
        rw [Bool.and_eq_false_iff]
        rcases Classical.em (97 ≤ z) with h | h
        · exact .inr (decide_eq_false fun h2 => a ⟨h, h2⟩)
        · exact .inl (decide_eq_false h)
      by_cases d : 48 ≤ z
      · by_cases d2 : z ≤ 57
        · exact .inr (.inl ⟨b, rfl, by rw [e2]; simp [d, d2], hl, d, d2⟩)
        · exact .inr (.inr (.inr (.inr ⟨fun b' h => by injection h with h; subst h; rw [e2, e1, hl]; simp [d2]; omega, hl, d, d2, by omega⟩)))
      · by_cases d3 : z = 45
        · exact .inr (.inr (.inl ⟨b, rfl, by rw [e2]; simp [d3], hl, d3⟩))
        · exact .inr (.inr (.inr (.inl ⟨fun b' h => by injection h with h; subst h; rw [e2, e1, hl]; simp [d, d3], hl, d, d3⟩)))
/-- A property read: what is wrong with it so far. -/
def PSt (B R : Nat) (s : ByteArray) (m k : Nat) (p : Int) (A : Option Addr) (ps : List Pr) (c : Nat) (w : World) (E : Int) (wx : World) : Prop :=
  OffB R B w wx ∧ wx.ownsRow B 50 2 (.slice A ps.length c) ps.length (pv ps) ∧ ∃ P, Rf R s m E P wx ∧ (E ≠ 0 → P = (k : Int)) ∧ (E = 0 → P = p)
def PFailed (B R : Nat) (s : ByteArray) (m k : Nat) (p : Int) (A : Option Addr) (ps : List Pr) (c : Nat) (w : World) (E : Int) (e : Ending) (w' : World) : Prop := e = .returned (.tuple #[]) ∧ PSt B R s m k p A ps c w E w'
set_option maxRecDepth 4000 in
theorem pfail_any {B R : Nat} {s : ByteArray} {m k : Nat} {p : Int} {A : Option Addr} {ps : List Pr} {c : Nat} {w wx : World} {E : Int} (h : PSt B R s m k p A ps c w E wx) (hR : R < B) (hB : B ≤ w.heap.size) (er : Int) (her : er ≠ 0) :
    Calls Tryd.prog 30 #[.pointer (some ⟨R, 0, none⟩), .int .i64 er, .int .i64 (k : Int)] wx (PFailed B R s m k p A ps c w (if E = 0 then er else E)) := by
  obtain ⟨ho, hw, P, hr, h1, h2⟩ := h
  have hz := ho.size
  by_cases he : E = 0
  · subst he
    refine (rfail_ok R s m P er (k : Int) wx hr).mono ?_
    rintro e w' ⟨rfl, hr', ho'⟩
    rw [if_pos rfl]
    exact ⟨rfl, ho.trans (ho'.less (by omega)), row_off hw hR ho', (k : Int), hr', fun _ => rfl, fun h => absurd h her⟩
  · refine (rfail_no R s m E P er (k : Int) wx hr he).mono ?_
    rintro e w' ⟨rfl, hr', ho'⟩
    rw [if_neg he]
    exact ⟨rfl, ho.trans (ho'.less (by omega)), row_off hw hR ho', P, hr', h1, h2⟩

set_option maxRecDepth 4000 in
set_option maxHeartbeats 16000000 in
theorem rprops_any (B R : Nat) (s : ByteArray) (i : Nat) (p : Int) (w : World) (h : Rf R s i 0 p w) (h123 : atB s i = some 123) (hs : s.size ≤ 40000) (hR : R < B) (hB : B ≤ w.heap.size) :
    Calls Tryd.prog 54 #[.pointer (some ⟨R, 0, none⟩)] w (RPropd B R s p (propsP s.data.toList [] (i + 1)) w) := by
  have hil := atB_lt h123
  have HC0 := hd (rftake_yes R s i 123 123 rfl 0 p w h (by omega) h123)
  clear h h123
  go_enter Tryd.func54, Tryd.ntmps54
  go_wp2_with fail
  refine HC0.out.mono ?_
  rintro e w1 ⟨rfl, hr1, ho1⟩
  have HR1 : Hid (PropRel B R s (i + 1) p w (.slice none 0 0) w1) := hd ⟨ho1.less hB, .inl ⟨[], i + 1, none, 0, rfl, hil, hr1, World.ownsRow_nil _ _ _ _, rfl, rfl⟩⟩
  clear hr1 ho1
  go_wp2_with fail
  go_loopw [3] (fun v wr => Hid (PropRel B R s (i + 1) p w v wr)) (fun _ wr => s.size + 1 - rfpos R wr)
  case atStart => exact HR1
  case round =>
    clear HR1
    obtain ⟨ho, ⟨ps, k, A, c, rfl, hk, hr, hw, hp, he⟩ | ⟨k, er, q, hne, hk, hr, he⟩⟩ := hrel.out
    · have hpos := hr.pos_eq
      have HO := hd ho
      have HR := hd hr
      have HW := hd hw
      have HP := hd hp
      have HE := hd he
      have hzr := ho.size
      obtain ⟨x0, x1, x2, x3⟩ := hr.cells
      clear ho hr hw hp he hrel
      go_upto_region 4 with fail
      go_wp2_with fail
      clear x0 x1 x2 x3
      obtain ⟨wo, hwo⟩ : ∃ wo : World, wo = wr := ⟨_, rfl⟩
      subst hwo
      go_loopw [] (fun wr => ∃ k2 : Nat, k ≤ k2 ∧ k2 ≤ s.size ∧ Hid (Rf R s k2 0 p wr) ∧ Hid (endL isLet s.data.toList k = endL isLet s.data.toList k2) ∧ Hid (OffB R B w wr) ∧ Hid (wr.ownsRow B 50 2 (.slice A ps.length c) ps.length (pv ps))) (fun wr => s.size - rfpos R wr)
      case atStart => exact ⟨k, Nat.le_refl _, hk, HR, rfl, HO, HW⟩
      case round =>
        clear HR HO HW
        obtain ⟨k2, hk1, hk2, HR, HL1, HO, HW⟩ := hrel
        have hpos2 := HR.out.pos_eq
        have hzr2 := HO.out.size
        obtain ⟨z, hz⟩ : ∃ z, nextZ s k2 = z := ⟨_, rfl⟩
        have HN := hd (rfnext_any R s k2 0 p wr HR.out z hz hk2)
        have HRd := hd (fun n => HR.out.drewN n)
        have HOd := hd (fun n => HO.out.drewN n)
        have HWd := hd (fun (n : Nat) => (row_off HW.out hR ((OffB.refl R wr.heap.size wr).drewN n) : (wr.drewN n).ownsRow B 50 2 (.slice A ps.length c) ps.length (pv ps)))
        by_cases hlet : ∃ b, atB s k2 = some b ∧ isLet b = true
        · obtain ⟨b, hb1, hb2⟩ := hlet
          have hlt := atB_lt hb1
          have HLt := hd (fun (X : World) => rletter_any 0 z true (by rw [← hz, nextZ_some hb1]; exact hb2) X)
          have HF := hd (HL1.out.trans (endB_step hb1 hb2))
          clear hb1 hb2 hz HL1 HO HW
          go_wp2_with fail
          refine HN.out.mono ?_
          rintro e w2 ⟨rfl, kd, rfl⟩
          go_wp2_with fail
          refine (HLt.out _).mono ?_
          rintro e w3 ⟨rfl, rfl⟩
          obtain ⟨y0, y1, y2, y3⟩ := (HRd.out kd).cells
          obtain ⟨f1, f2, f3⟩ := (HRd.out kd).frees
          have HR3 := hd ((HRd.out kd).set (k2 + 1) (z := (k2 : Int) + 1) (by omega))
          have HP3 := hd HR3.out.pos_eq
          go_wp2
          go_roundw
          case rel => exact ⟨k2 + 1, by omega, by omega, HR3, HF, hd ((HOd.out kd).set 1 _), hd (row_off (HWd.out kd) hR ((OffB.refl R _ _).set 1 _))⟩
          case measure => rw [HP3.out, hpos2]; omega
        · have hnl : ∀ b, atB s k2 = some b → isLet b = false := fun b h1 => by
            cases h2 : isLet b with
            | false => rfl
            | true => exact absurd ⟨b, h1, h2⟩ hlet
          have HLt := hd (fun (X : World) => rletter_any 0 z false (by
            rw [← hz]
            cases hc : atB s k2 with
            | none => unfold nextZ; rw [hc]; rfl
            | some b => rw [nextZ_some hc]; exact hnl b hc) X)
          have HJ := hd (show endL isLet s.data.toList k = k2 from HL1.out.trans (endB_stop hnl))
          clear hnl hlet hz HL1 HO HW
          go_wp2_with fail
          refine HN.out.mono ?_
          rintro e w2 ⟨rfl, kd, rfl⟩
          go_wp2_with fail
          refine (HLt.out _).mono ?_
          rintro e w3 ⟨rfl, rfl⟩
          have HR2 := hd (HRd.out kd)
          have HO2 := hd (HOd.out kd)
          have HW2 := hd (HWd.out kd)
          clear HRd HOd HWd HN HLt HR
          generalize wr.drewN kd = wj at HR2 HO2 HW2 ⊢
          go_wp2_with fail
          obtain ⟨x0, x1, x2, x3⟩ := HR2.out.cells
          obtain ⟨K, hK⟩ : ∃ K, s.extract k k2 = K := ⟨_, rfl⟩
          have HKm := hd (show K = mkB (cutS s.data.toList k k2) by rw [← hK, ex_mk])
          have hKs : K.size = k2 - k := by rw [HKm.out]; exact mkB_cut_size s k k2 hk2
          have hKs1 : K.size + k ≤ k2 := by omega
          have hKs2 : k2 ≤ K.size + k := by omega
          have hKe : K.toList.isEmpty = decide (k2 = k) := by rw [isEmpty_of']; exact decide_eq_decide.2 (by omega)
          have hkk : (k : Int) ≤ (k2 : Int) := by omega
          have hks : (k2 : Int) ≤ (s.size : Int) := by omega
          have HK := hd hK
          clear hK hKs
          go_quiet (fail)
          rw [HK.out]
          have HR3 := hd (HR2.out.drewN nq)
          have HO3 := hd (HO2.out.drewN nq)
          have HW3 := hd (row_off HW2.out hR ((OffB.refl R _ _).drewN nq))
          clear x0 x1 x2 x3 HR2 HO2 HW2
          generalize wj.drewN nq = wk at HR3 HO3 HW3 ⊢
          have hzk := HO3.out.size
          by_cases hkj : k2 = k
          · have hKb : K.toList.isEmpty = true := by rw [hKe]; simp [hkj]
            have HF := hd (HE.out.trans (propsP_bad (show propP s.data.toList ps k = .bad k 11 by unfold propP; rw [if_pos (by rw [HJ.out]; exact hkj)])))
            have HC := hd (rfail_ok R s k2 p 11 (k2 : Int) wk HR3.out)
            have HKJ := hd hkj
            obtain ⟨x0, x1, x2, x3⟩ := HR3.out.cells
            clear hKe hkj
            go_wp2_with fail
            refine HC.out.mono ?_
            rintro e w4 ⟨rfl, hr4, ho4⟩
            go_wp2
            go_ret
            rw [HF.out]
            exact ⟨HO3.out.trans (ho4.less (by omega)), k2, _, _, _, rfl, hk2, by rw [show (k : Int) = (k2 : Int) by have := HKJ.out; omega]; exact hr4⟩
          · have hKb : K.toList.isEmpty = false := by rw [hKe]; simp [hkj]
            by_cases h58 : atB s k2 = some 58
            · have hkl := atB_lt h58
              have HC := hd (rftake_yes R s k2 58 58 rfl 0 p wk HR3.out (by omega) h58)
              obtain ⟨k3, hk3⟩ : ∃ k3, k3 = k2 + 1 := ⟨_, rfl⟩
              rw [← hk3] at HC
              have hk3a : k2 + 1 ≤ k3 := by omega
              have hk3b : k3 ≤ s.size := by omega
              have HK3 := hd hk3
              clear hk3
              have H58 := hd h58
              have HKN := hd hkj
              clear hKe hkj h58
              go_wp2_with fail
              refine HC.out.mono ?_
              rintro e w4 ⟨rfl, hr4, ho4⟩
              have HR4 := hd hr4
              have HO4 := hd (HO3.out.trans (ho4.less (by omega)))
              have HW4 := hd (row_off HW3.out hR ho4)
              clear hr4 ho4 HR3 HO3 HW3 HC
              obtain ⟨x0, x1, x2, x3⟩ := HR4.out.cells
              go_wp2_with fail
              clear x0 x1 x2 x3
              go_loopw [] (fun wr => ∃ m : Nat, k3 ≤ m ∧ m ≤ s.size ∧ Hid (Rf R s m 0 p wr) ∧ Hid (endL isVal s.data.toList k3 = endL isVal s.data.toList m) ∧ Hid (OffB R B w wr) ∧ Hid (wr.ownsRow B 50 2 (.slice A ps.length c) ps.length (pv ps))) (fun wr => s.size - rfpos R wr)
              case atStart => exact ⟨k3, Nat.le_refl _, hk3b, HR4, rfl, HO4, HW4⟩
              case round =>
                clear HR4 HO4 HW4
                obtain ⟨m, hm1, hm2, HR, HL2, HO, HW⟩ := hrel
                have hpos3 := HR.out.pos_eq
                have hzr3 := HO.out.size
                obtain ⟨z, hz⟩ : ∃ z, nextZ s m = z := ⟨_, rfl⟩
                have HN := hd (fun n => rfnext_any R s m 0 p (wr.drewN n) (HR.out.drewN n) z hz hm2)
                have HRd := hd (fun n => HR.out.drewN n)
                have HOd := hd (fun n => HO.out.drewN n)
                have HWd := hd (fun (n : Nat) => (row_off HW.out hR ((OffB.refl R wr.heap.size wr).drewN n) : (wr.drewN n).ownsRow B 50 2 (.slice A ps.length c) ps.length (pv ps)))
                obtain ⟨x0, x1, x2, x3⟩ := HR.out.cells
                have hn0 := HN.out 0
                have HN0 := hd (show Calls Tryd.prog 53 #[.pointer (some ⟨R, 0, none⟩)] wr (Quiet (.int .u8 z) wr) from hn0)
                clear hn0
                rcases vz_cases s m z hz with ⟨b, hb1, hb2, hl⟩ | ⟨b, hb1, hb2, hl, g1, g2⟩ | ⟨b, hb1, hb2, hl, g1⟩ | ⟨hst, hl, g1, g2⟩ | ⟨hst, hl, g1, g2, g3⟩
                · have HLt := hd (fun (X : World) => rletter_any 0 z true hl X)
                  have hlt := atB_lt hb1
                  have HF := hd (HL2.out.trans (endB_step hb1 hb2))
                  clear hb1 hb2 hz HL2 HO HW hl
                  go_wp2_with fail
                  refine HN0.out.mono ?_
                  rintro e w5 ⟨rfl, kd, rfl⟩
                  go_wp2_with fail
                  refine (HLt.out _).mono ?_
                  rintro e w6 ⟨rfl, rfl⟩
                  obtain ⟨y0, y1, y2, y3⟩ := (HRd.out (kd)).cells
                  obtain ⟨f1, f2, f3⟩ := (HRd.out (kd)).frees
                  have HR3 := hd ((HRd.out (kd)).set (m + 1) (z := (m : Int) + 1) (by omega))
                  have HP3 := hd HR3.out.pos_eq
                  go_wp2
                  go_roundw
                  case rel => exact ⟨m + 1, by omega, by omega, HR3, HF, hd ((HOd.out (kd)).set 1 _), hd (row_off (HWd.out (kd)) hR ((OffB.refl R _ _).set 1 _))⟩
                  case measure => rw [HP3.out, hpos3]; omega
                · have HLt := hd (fun (X : World) => rletter_any 0 z false hl X)
                  have hlt := atB_lt hb1
                  have HF := hd (HL2.out.trans (endB_step hb1 hb2))
                  clear hb1 hb2 hz HL2 HO HW hl
                  go_wp2_with fail
                  refine HN0.out.mono ?_
                  rintro e w5 ⟨rfl, kd, rfl⟩
                  go_wp2_with fail
                  refine (HLt.out _).mono ?_
                  rintro e w6 ⟨rfl, rfl⟩
                  go_wp2_with fail
                  refine (HN.out kd).mono ?_
                  rintro e w7 ⟨rfl, kd2, rfl⟩
                  go_wp2_with fail
                  refine (HN.out (kd + kd2)).mono ?_
                  rintro e w8 ⟨rfl, kd3, rfl⟩
                  obtain ⟨y0, y1, y2, y3⟩ := (HRd.out (kd + kd2 + kd3)).cells
                  obtain ⟨f1, f2, f3⟩ := (HRd.out (kd + kd2 + kd3)).frees
                  have HR3 := hd ((HRd.out (kd + kd2 + kd3)).set (m + 1) (z := (m : Int) + 1) (by omega))
                  have HP3 := hd HR3.out.pos_eq
                  go_wp2
                  go_roundw
                  case rel => exact ⟨m + 1, by omega, by omega, HR3, HF, hd ((HOd.out (kd + kd2 + kd3)).set 1 _), hd (row_off (HWd.out (kd + kd2 + kd3)) hR ((OffB.refl R _ _).set 1 _))⟩
                  case measure => rw [HP3.out, hpos3]; omega
                · have HLt := hd (fun (X : World) => rletter_any 0 z false hl X)
                  have hlt := atB_lt hb1
                  have HF := hd (HL2.out.trans (endB_step hb1 hb2))
                  clear hb1 hb2 hz HL2 HO HW hl
                  subst g1
                  go_wp2_with fail
                  refine HN0.out.mono ?_
                  rintro e w5 ⟨rfl, kd, rfl⟩
                  go_wp2_with fail
                  refine (HLt.out _).mono ?_
                  rintro e w6 ⟨rfl, rfl⟩
                  go_wp2_with fail
                  refine (HN.out kd).mono ?_
                  rintro e w7 ⟨rfl, kd2, rfl⟩
                  go_wp2_with fail
                  refine (HN.out (kd + kd2)).mono ?_
                  rintro e w8 ⟨rfl, kd3, rfl⟩
                  obtain ⟨y0, y1, y2, y3⟩ := (HRd.out (kd + kd2 + kd3)).cells
                  obtain ⟨f1, f2, f3⟩ := (HRd.out (kd + kd2 + kd3)).frees
                  have HR3 := hd ((HRd.out (kd + kd2 + kd3)).set (m + 1) (z := (m : Int) + 1) (by omega))
                  have HP3 := hd HR3.out.pos_eq
                  go_wp2
                  go_roundw
                  case rel => exact ⟨m + 1, by omega, by omega, HR3, HF, hd ((HOd.out (kd + kd2 + kd3)).set 1 _), hd (row_off (HWd.out (kd + kd2 + kd3)) hR ((OffB.refl R _ _).set 1 _))⟩
                  case measure => rw [HP3.out, hpos3]; omega
                · have HLt := hd (fun (X : World) => rletter_any 0 z false hl X)
                  have HM := hd (show endL isVal s.data.toList k3 = m from HL2.out.trans (endB_stop hst))
                  have g1' : decide (48 ≤ z) = false := decide_eq_false g1
                  have g2' : (z == 45) = false := by simpa using g2
                  clear hst hz HL2 HO HW hl g1 g2
                  go_wp2_with fail
                  refine HN0.out.mono ?_
                  rintro e w5 ⟨rfl, kd, rfl⟩
                  go_wp2_with fail
                  refine (HLt.out _).mono ?_
                  rintro e w6 ⟨rfl, rfl⟩
                  go_wp2_with fail
                  refine (HN.out kd).mono ?_
                  rintro e w7 ⟨rfl, kd2, rfl⟩
                  go_wp2_with fail
                  refine (HN.out (kd + kd2)).mono ?_
                  rintro e w8 ⟨rfl, kd3, rfl⟩
                  have HR6 := hd (HRd.out (kd + kd2 + kd3))
                  have HO6 := hd (HOd.out (kd + kd2 + kd3))
                  have HW6 := hd (HWd.out (kd + kd2 + kd3))
                  clear HRd HOd HWd HN HN0 HLt HR x0 x1 x2 x3
                  have hx6 := HR6.out.cells.2.2.1
                  go_wp2_with fail
                  clear hx6
                  generalize wr.drewN (kd + kd2 + kd3) = wv at HR6 HO6 HW6 ⊢
                  obtain ⟨x0, x1, x2, x3⟩ := HR6.out.cells
                  obtain ⟨V, hV⟩ : ∃ V, s.extract k3 m = V := ⟨_, rfl⟩
                  have HVm := hd (show V = mkB (cutS s.data.toList k3 m) by rw [← hV, ex_mk])
                  have hVs : V.size = m - k3 := by rw [HVm.out]; exact mkB_cut_size s k3 m hm2
                  have hVs1 : V.size ≤ 40000 := by omega
                  have HPr := hd (show prOf s.data.toList k = (K, V) by unfold prOf; rw [HJ.out, ← HK3.out, HM.out, HKm.out, HVm.out])
                  have HCS := hd (chk_snoc HP.out K V (by have := HKN.out; omega) (by rw [HKm.out, mkB_data, ← HJ.out]; exact endL_all _ _ _) (by rw [HVm.out, mkB_data, ← HM.out]; exact endL_all _ _ _))
                  have HPP := hd (show propP s.data.toList ps k = if chk (ps ++ [(K, V)]) ≠ 0 then .bad k (chk (ps ++ [(K, V)])) else .ok (K, V) m by
                    unfold propP
                    rw [if_neg (by rw [HJ.out]; exact HKN.out), HJ.out, if_neg (by rw [show s.data.toList[k2]? = some 58 from H58.out]; simp), HPr.out, ← HK3.out, HM.out])
                  have hl16 := chk_len HP.out
                  have HVV := hd hV
                  have hmm : (k3 : Int) ≤ (m : Int) := by omega
                  have hms : (m : Int) ≤ (s.size : Int) := by omega
                  clear hV hVs
                  go_quiet (fail)
                  rw [HVV.out]
                  have hst0 : PSt B R s m k p A ps c w 0 (wv.drewN nq) := ⟨HO6.out.drewN nq, row_off HW6.out hR ((OffB.refl R _ _).drewN nq), p, HR6.out.drewN nq, fun h => absurd rfl h, fun _ => rfl⟩
                  have HST0 := hd hst0
                  clear x0 x1 x2 x3 HR6 HO6 HW6 hst0
                  generalize wv.drewN nq = w0 at HST0 ⊢
                  obtain ⟨_, _, P0, hrr, _, _⟩ := HST0.out
                  obtain ⟨x0, x1, x2, x3⟩ := hrr.cells
                  clear hrr
                  go_upto_if 102 with fail
                  go_cut [] from 100 to 105 (fun wx => Hid (PSt B R s m k p A ps c w (if ps.length = 16 then 2 else 0) wx))
                  case first =>
                    by_cases h16 : ps.length = 16
                    · have g1 : ((ps.length : Int) == 16) = true := by simp [h16]
                      have HC := hd (pfail_any HST0.out hR hB 2 (by decide))
                      have HH := hd h16
                      clear h16
                      go_wp2_with fail
                      refine HC.out.mono ?_
                      rintro e w' ⟨rfl, hst⟩
                      go_wp2_with fail
                      go_meet
                      case rel => rw [if_pos HH.out]; exact hst
                    · have g1 : ((ps.length : Int) == 16) = false := by rw [beq_eq_false_iff_ne]; omega
                      have HH := hd h16
                      clear h16
                      go_wp2_with fail
                      go_meet
                      case rel => rw [if_neg HH.out]; exact HST0
                  case rest =>
                    obtain ⟨E1, hE1⟩ : ∃ E1 : Int, E1 = (if ps.length = 16 then 2 else 0) := ⟨_, rfl⟩
                    rw [← hE1] at hcut
                    have HE1 := hd hE1
                    have HST1 := hcut
                    clear hE1 hcut HST0 x0 x1 x2 x3
                    obtain ⟨w1c, hw1c⟩ : ∃ w1c : World, w1c = wc := ⟨_, rfl⟩
                    subst hw1c
                    go_upto_region 20 with fail
                    go_cut [113] from 106 to 112 (fun x wx => x = .bool (decide (16 < K.size ∨ 32 < V.size)) ∧ wx = w1c)
                    case first =>
                      by_cases a : 16 < K.size
                      · have a1 : (16 : Int) < (K.size : Int) := by omega
                        have HX := hd (show true = decide (16 < K.size ∨ 32 < V.size) by simp [a])
                        go_wp2_with fail
                        go_meet
                        case rel => exact ⟨bool_eq HX.out, rfl⟩
                      · have a1 : decide (16 < K.size) = false := decide_eq_false a
                        by_cases b : 32 < V.size
                        · have b1 : (32 : Int) < (V.size : Int) := by omega
                          have HX := hd (show true = decide (16 < K.size ∨ 32 < V.size) by simp [b])
                          go_wp2_with fail
                          go_meet
                          case rel => exact ⟨bool_eq (by simpa using HX.out), rfl⟩
                        · have b1 : decide (32 < V.size) = false := decide_eq_false b
                          go_wp2_with fail
                          go_meet
                          case rel => exact ⟨bool_eq (by rw [show decide ((16 : Int) < (K.size : Int)) = decide (16 < K.size) from decide_eq_decide.2 (by omega), show decide ((32 : Int) < (V.size : Int)) = decide (32 < V.size) from decide_eq_decide.2 (by omega)]; simp), rfl⟩
                    case rest =>
                      obtain ⟨rfl, rfl⟩ := hcut
                      have HCF := hd (pfail_any HST1.out hR hB 3 (by decide))
                      obtain ⟨D, hD⟩ : ∃ D, decide (16 < K.size ∨ 32 < V.size) = D := ⟨_, rfl⟩
                      rw [hD]
                      have HD := hd hD
                      clear hD
                      go_upto_if 113 with fail
                      go_cut [] from 114 to 116 (fun wx => Hid (PSt B R s m k p A ps c w (if D = true then (if E1 = 0 then 3 else E1) else E1) wx))
                      case first =>
                        cases D
                        · go_wp2_with fail
                          go_meet
                          case rel => exact HST1
                        · go_wp2_with fail
                          refine HCF.out.mono ?_
                          rintro e w' ⟨rfl, hst⟩
                          go_wp2_with fail
                          go_meet
                          case rel => exact hst
                      case rest =>
                        obtain ⟨E2, hE2⟩ : ∃ E2 : Int, E2 = (if D = true then (if E1 = 0 then 3 else E1) else E1) := ⟨_, rfl⟩
                        rw [← hE2] at hcut
                        have HE2 := hd hE2
                        have HST2 := hcut
                        clear hE2 hcut HST1 HCF
                        obtain ⟨w2c, hw2c⟩ : ∃ w2c : World, w2c = wc := ⟨_, rfl⟩
                        subst hw2c
                        go_upto_region 22 with fail
                        go_cut [130] from 117 to 129 (fun x wx => x = .bool (decide (0 < ps.length ∧ leB K (prAt ps (ps.length - 1)).1 = true)) ∧ wx = w2c)
                        case first =>
                          by_cases a : 0 < ps.length
                          · have a1 : (0 : Int) < (ps.length : Int) := by omega
                            obtain ⟨gA, oA, hA, hgl, c1, c2⟩ := (rowPL HST2.out.2.1).at_ (k := ps.length - 1) (by omega)
                            obtain ⟨X, hX⟩ : ∃ X, X = (prAt ps (ps.length - 1)).1 := ⟨_, rfl⟩
                            rw [← hX] at c1
                            subst hA
                            have HX := hd hX
                            have i0 : (0 : Int) ≤ (ps.length : Int) - 1 := by omega
                            have i1 : (ps.length : Int) - 1 < (ps.length : Int) := by omega
                            clear c2 hX
                            go_wp2_with fail
                            go_meet
                            case rel => exact ⟨bool_eq (by rw [← HX.out, show decide (0 < ps.length ∧ leB K X = true) = leB K X by simp [a]]; rfl), rfl⟩
                          · have a1 : decide (0 < ps.length) = false := decide_eq_false a
                            go_wp2_with fail
                            go_meet
                            case rel => exact ⟨bool_eq (by simp [a]), rfl⟩
                        case rest =>
                          obtain ⟨rfl, rfl⟩ := hcut
                          have HCF := hd (pfail_any HST2.out hR hB 1 (by decide))
                          obtain ⟨C, hC⟩ : ∃ C, decide (0 < ps.length ∧ leB K (prAt ps (ps.length - 1)).1 = true) = C := ⟨_, rfl⟩
                          rw [hC]
                          have HC3 := hd hC
                          clear hC
                          go_upto_if 130 with fail
                          go_cut [] from 131 to 133 (fun wx => Hid (PSt B R s m k p A ps c w (if C = true then (if E2 = 0 then 1 else E2) else E2) wx))
                          case first =>
                            cases C
                            · go_wp2_with fail
                              go_meet
                              case rel => exact HST2
                            · go_wp2_with fail
                              refine HCF.out.mono ?_
                              rintro e w' ⟨rfl, hst⟩
                              go_wp2_with fail
                              go_meet
                              case rel => exact hst
                          case rest =>
                            obtain ⟨E3, hE3⟩ : ∃ E3 : Int, E3 = (if C = true then (if E2 = 0 then 1 else E2) else E2) := ⟨_, rfl⟩
                            rw [← hE3] at hcut
                            have HCK := hd (show chk (ps ++ [(K, V)]) = E3 by
                              rw [HCS.out, hE3, HE2.out, HE1.out, ← HD.out, ← HC3.out]
                              by_cases q1 : ps.length = 16
                              · simp [q1]
                              · by_cases q2 : 16 < K.size ∨ 32 < V.size
                                · simp [q1, q2]
                                · simp [q1, q2])
                            obtain ⟨ho3, hw3, P, hr3, hp3, hp4⟩ := hcut.out
                            have HO3 := hd ho3
                            have HW3 := hd hw3
                            have HR3 := hd hr3
                            have HP3 := hd (⟨hp3, hp4⟩ : (E3 ≠ 0 → P = (k : Int)) ∧ (E3 = 0 → P = p))
                            have hz3 := ho3.size
                            clear hE3 hcut HST2 HCF HCS HE1 HE2 HD HC3 ho3 hw3 hr3 hp3 hp4
                            obtain ⟨w3c, hw3c⟩ : ∃ w3c : World, w3c = wc := ⟨_, rfl⟩
                            subst hw3c
                            have one : ∀ u ∈ [Value.string K, .string V], u.oneCell' = true := by intro u hu; simp at hu; rcases hu with rfl | rfl <;> rfl
                            go_upto_region 25 with (at_builtin; refine wpList_app1 propG w3c rfl (.tmp 134) (.tmp 138) rfl B (.slice A ps.length c) ps.length (pv ps) [.string K, .string V] rfl HW3.out rfl rfl one (by omega) (by decide) (by omega) ?_; intro A4 c4 w4 hown4 hgrow4 hat4)
                            have e4 : pv ps ++ [Value.string K, .string V] = pv (ps ++ [(K, V)]) := by simp [pv]
                            rw [e4] at hown4
                            have hg4 : ∀ g, (Value.slice A ps.length c).ownBlock = some g → B ≤ g := fun g e => (HW3.out.lt g e).1
                            have hz4 := hgrow4.size
                            have HO4 := hd (show OffB R B w w4 from by
                              have h3 := HO3.out.alloc (.cells #[.string K, .string V] 50) (by omega)
                              refine ⟨hgrow4.os.trans h3.os, hgrow4.tape.trans h3.tape, hgrow4.output.trans h3.output, Nat.le_trans h3.size hz4, fun j hj hr => ?_⟩
                              exact (grown_off (R := R) hgrow4 (by simp; omega) hg4 j hj hr).trans (h3.block j hj hr))
                            have HR4 := hd (show Rf R s m E3 P w4 from ⟨by
                              rw [hgrow4.block R (by have := HR3.out.lt; simp; omega) (fun e => by have := hg4 R e.symm; omega), Below.heap_alloc _ _ _ HR3.out.lt]
                              exact HR3.out.blk⟩)
                            have HW4 := hd hown4
                            have hz4' := HO4.out.size
                            obtain ⟨x0, x1, x2, x3⟩ := HR4.out.cells
                            obtain ⟨z5, hz5⟩ : ∃ z, nextZ s m = z := ⟨_, rfl⟩
                            have h125z := nextZ_is (s := s) (i := m) (c := 125) (by decide)
                            rw [hz5] at h125z
                            have HNq := hd (fun n => quiet_in0 (rfnext_any R s m E3 P (w4.drewN n) (HR4.out.drewN n) z5 hz5 hm2))
                            have hkm : k + 1 ≤ m := by omega
                            have HFok := hd (fun (h0 : E3 = 0) => HE.out.trans (propsP_step (show propP s.data.toList ps k = .ok (K, V) m by rw [HPP.out, HCK.out, if_neg (by simp [h0])])))
                            have HFbad := hd (fun (h0 : E3 ≠ 0) => HE.out.trans (propsP_bad (show propP s.data.toList ps k = .bad k E3 by rw [HPP.out, HCK.out, if_pos h0])))
                            have hlp : (ps ++ [(K, V)]).length = ps.length + 1 := by simp
                            have HLP := hd hlp
                            clear hlp
                            clear e4 hown4 hgrow4 hat4 hg4 hz4 HO3 HW3 HR3 one hz5
                            by_cases h125 : atB s m = some 125
                            · have g1 : (z5 == 125) = true := by have := h125z; simpa [h125] using this
                              have hml := atB_lt h125
                              have g2 : (m : Int) < (s.size : Int) := by omega
                              have H125 := hd h125
                              clear h125z h125
                              go_quiet ((go_at_call 53; exact HNq.out _))
                              have HR5 := hd (HR4.out.drewN nq)
                              have HO5 := hd (HO4.out.drewN nq)
                              have HW5 := hd (row_off HW4.out hR ((OffB.refl R _ _).drewN nq))
                              clear x0 x1 x2 x3 HNq HR4 HO4 HW4
                              generalize w4.drewN nq = w5 at HR5 HO5 HW5 ⊢
                              obtain ⟨x0, x1, x2, x3⟩ := HR5.out.cells
                              obtain ⟨f1, f2, f3⟩ := HR5.out.frees
                              have HR6 := hd (HR5.out.set (m + 1) (z := (m : Int) + 1) (by omega))
                              go_wp2
                              go_ret
                              by_cases hE : E3 = 0
                              · rw [HFok.out hE, if_pos (show s.data.toList[m]? = some 125 from H125.out)]
                                have hP := HP3.out.2 hE
                                subst hE hP
                                exact ⟨HO5.out.set 1 _, HR6.out, A4, c4, by rw [HLP.out]; rfl, by rw [HLP.out]; exact row_off HW5.out hR ((OffB.refl R _ _).set 1 _)⟩
                              · rw [HFbad.out hE]
                                have hP := HP3.out.1 hE
                                subst hP
                                exact ⟨HO5.out.set 1 _, m + 1, A4, _, c4, rfl, by omega, HR6.out⟩
                            · have g1 : (z5 == 125) = false := by have := h125z; simpa [h125] using this
                              have H125 := hd h125
                              clear h125z h125
                              go_quiet ((go_at_call 53; exact HNq.out _))
                              have HR5 := hd (HR4.out.drewN nq)
                              have HO5 := hd (HO4.out.drewN nq)
                              have HW5 := hd (row_off HW4.out hR ((OffB.refl R _ _).drewN nq))
                              clear x0 x1 x2 x3 HNq HR4 HO4 HW4
                              generalize w4.drewN nq = w5 at HR5 HO5 HW5 ⊢
                              have hz5 := HO5.out.size
                              by_cases hE : E3 = 0
                              · have HF := hd ((HFok.out hE).trans (if_neg (show ¬ s.data.toList[m]? = some 125 from H125.out)))
                                have hP := HP3.out.2 hE
                                subst hE hP
                                by_cases h44 : atB s m = some 44
                                · have hml := atB_lt h44
                                  have HT := hd (rftake_yes R s m 44 44 rfl 0 P w5 HR5.out (by omega) h44)
                                  have HF2 := hd (HF.out.trans (if_pos (show s.data.toList[m]? = some 44 from h44)))
                                  clear h44
                                  go_wp2_with fail
                                  refine HT.out.mono ?_
                                  rintro e w6 ⟨rfl, hr6, ho6⟩
                                  have hp6 := hr6.pos_eq
                                  have HX := hd (show PropRel B R s (i + 1) P w (.slice A4 (ps.length + 1) c4) w6 from ⟨HO5.out.trans (ho6.less (by omega)), .inl ⟨ps ++ [(K, V)], m + 1, A4, c4, by rw [HLP.out], by omega, hr6, by rw [HLP.out]; exact row_off HW5.out hR ho6, HCK.out, HF2.out⟩⟩)
                                  clear hr6 ho6
                                  go_wp2
                                  go_roundw
                                  case rel => exact HX
                                  case measure => rw [hp6, hpos]; omega
                                · have HT := hd (rftake_no R s m 44 44 rfl P w5 HR5.out hm2 h44)
                                  have HF2 := hd (HF.out.trans (if_neg (show ¬ s.data.toList[m]? = some 44 from h44)))
                                  clear h44
                                  go_wp2_with fail
                                  refine HT.out.mono ?_
                                  rintro e w6 ⟨rfl, hr6, ho6⟩
                                  have hp6 := hr6.pos_eq
                                  have HX := hd (show PropRel B R s (i + 1) P w (.slice A4 (ps.length + 1) c4) w6 from ⟨HO5.out.trans (ho6.less (by omega)), .inr ⟨m, 11, m, by decide, hm2, hr6, HF2.out⟩⟩)
                                  clear hr6 ho6
                                  go_wp2
                                  go_roundw
                                  case rel => exact HX
                                  case measure => rw [hp6, hpos]; omega
                              · have HF := hd (HFbad.out hE)
                                have hP := HP3.out.1 hE
                                subst hP
                                have HT := hd (rftake_bad R s m 44 44 rfl E3 (k : Int) w5 HR5.out hE hm2 (by omega))
                                have HEE := hd hE
                                clear hE
                                go_wp2_with fail
                                refine HT.out.mono ?_
                                rintro e w6 ⟨rfl, ho6, j6, hj1, hj2, hr6⟩
                                have hp6 := hr6.pos_eq
                                have HX := hd (show PropRel B R s (i + 1) p w (.slice A4 (ps.length + 1) c4) w6 from ⟨HO5.out.trans (ho6.less (by omega)), .inr ⟨j6, E3, k, HEE.out, hj2, hr6, HF.out⟩⟩)
                                clear hr6 ho6
                                go_wp2
                                go_roundw
                                case rel => exact HX
                                case measure => rw [hp6, hpos]; omega
                · have HLt := hd (fun (X : World) => rletter_any 0 z false hl X)
                  have HM := hd (show endL isVal s.data.toList k3 = m from HL2.out.trans (endB_stop hst))
                  have g2' : decide (z ≤ 57) = false := decide_eq_false g2
                  have g3' : (z == 45) = false := by simpa using g3
                  clear hst hz HL2 HO HW hl g2 g3
                  go_wp2_with fail
                  refine HN0.out.mono ?_
                  rintro e w5 ⟨rfl, kd, rfl⟩
                  go_wp2_with fail
                  refine (HLt.out _).mono ?_
                  rintro e w6 ⟨rfl, rfl⟩
                  go_wp2_with fail
                  refine (HN.out kd).mono ?_
                  rintro e w7 ⟨rfl, kd2, rfl⟩
                  go_wp2_with fail
                  refine (HN.out (kd + kd2)).mono ?_
                  rintro e w8 ⟨rfl, kd3, rfl⟩
                  go_wp2_with fail
                  refine (HN.out (kd + kd2 + kd3)).mono ?_
                  rintro e w9 ⟨rfl, kd4, rfl⟩
                  have HR6 := hd (HRd.out (kd + kd2 + kd3 + kd4))
                  have HO6 := hd (HOd.out (kd + kd2 + kd3 + kd4))
                  have HW6 := hd (HWd.out (kd + kd2 + kd3 + kd4))
                  clear HRd HOd HWd HN HN0 HLt HR x0 x1 x2 x3
                  have hx6 := HR6.out.cells.2.2.1
                  go_wp2_with fail
                  clear hx6
                  generalize wr.drewN (kd + kd2 + kd3 + kd4) = wv at HR6 HO6 HW6 ⊢
                  obtain ⟨x0, x1, x2, x3⟩ := HR6.out.cells
                  obtain ⟨V, hV⟩ : ∃ V, s.extract k3 m = V := ⟨_, rfl⟩
                  have HVm := hd (show V = mkB (cutS s.data.toList k3 m) by rw [← hV, ex_mk])
                  have hVs : V.size = m - k3 := by rw [HVm.out]; exact mkB_cut_size s k3 m hm2
                  have hVs1 : V.size ≤ 40000 := by omega
                  have HPr := hd (show prOf s.data.toList k = (K, V) by unfold prOf; rw [HJ.out, ← HK3.out, HM.out, HKm.out, HVm.out])
                  have HCS := hd (chk_snoc HP.out K V (by have := HKN.out; omega) (by rw [HKm.out, mkB_data, ← HJ.out]; exact endL_all _ _ _) (by rw [HVm.out, mkB_data, ← HM.out]; exact endL_all _ _ _))
                  have HPP := hd (show propP s.data.toList ps k = if chk (ps ++ [(K, V)]) ≠ 0 then .bad k (chk (ps ++ [(K, V)])) else .ok (K, V) m by
                    unfold propP
                    rw [if_neg (by rw [HJ.out]; exact HKN.out), HJ.out, if_neg (by rw [show s.data.toList[k2]? = some 58 from H58.out]; simp), HPr.out, ← HK3.out, HM.out])
                  have hl16 := chk_len HP.out
                  have HVV := hd hV
                  have hmm : (k3 : Int) ≤ (m : Int) := by omega
                  have hms : (m : Int) ≤ (s.size : Int) := by omega
                  clear hV hVs
                  go_quiet (fail)
                  rw [HVV.out]
                  have hst0 : PSt B R s m k p A ps c w 0 (wv.drewN nq) := ⟨HO6.out.drewN nq, row_off HW6.out hR ((OffB.refl R _ _).drewN nq), p, HR6.out.drewN nq, fun h => absurd rfl h, fun _ => rfl⟩
                  have HST0 := hd hst0
                  clear x0 x1 x2 x3 HR6 HO6 HW6 hst0
                  generalize wv.drewN nq = w0 at HST0 ⊢
                  obtain ⟨_, _, P0, hrr, _, _⟩ := HST0.out
                  obtain ⟨x0, x1, x2, x3⟩ := hrr.cells
                  clear hrr
                  go_upto_if 102 with fail
                  go_cut [] from 100 to 105 (fun wx => Hid (PSt B R s m k p A ps c w (if ps.length = 16 then 2 else 0) wx))
                  case first =>
                    by_cases h16 : ps.length = 16
                    · have g1 : ((ps.length : Int) == 16) = true := by simp [h16]
                      have HC := hd (pfail_any HST0.out hR hB 2 (by decide))
                      have HH := hd h16
                      clear h16
                      go_wp2_with fail
                      refine HC.out.mono ?_
                      rintro e w' ⟨rfl, hst⟩
                      go_wp2_with fail
                      go_meet
                      case rel => rw [if_pos HH.out]; exact hst
                    · have g1 : ((ps.length : Int) == 16) = false := by rw [beq_eq_false_iff_ne]; omega
                      have HH := hd h16
                      clear h16
                      go_wp2_with fail
                      go_meet
                      case rel => rw [if_neg HH.out]; exact HST0
                  case rest =>
                    obtain ⟨E1, hE1⟩ : ∃ E1 : Int, E1 = (if ps.length = 16 then 2 else 0) := ⟨_, rfl⟩
                    rw [← hE1] at hcut
                    have HE1 := hd hE1
                    have HST1 := hcut
                    clear hE1 hcut HST0 x0 x1 x2 x3
                    obtain ⟨w1c, hw1c⟩ : ∃ w1c : World, w1c = wc := ⟨_, rfl⟩
                    subst hw1c
                    go_upto_region 20 with fail
                    go_cut [113] from 106 to 112 (fun x wx => x = .bool (decide (16 < K.size ∨ 32 < V.size)) ∧ wx = w1c)
                    case first =>
                      by_cases a : 16 < K.size
                      · have a1 : (16 : Int) < (K.size : Int) := by omega
                        have HX := hd (show true = decide (16 < K.size ∨ 32 < V.size) by simp [a])
                        go_wp2_with fail
                        go_meet
                        case rel => exact ⟨bool_eq HX.out, rfl⟩
                      · have a1 : decide (16 < K.size) = false := decide_eq_false a
                        by_cases b : 32 < V.size
                        · have b1 : (32 : Int) < (V.size : Int) := by omega
                          have HX := hd (show true = decide (16 < K.size ∨ 32 < V.size) by simp [b])
                          go_wp2_with fail
                          go_meet
                          case rel => exact ⟨bool_eq (by simpa using HX.out), rfl⟩
                        · have b1 : decide (32 < V.size) = false := decide_eq_false b
                          go_wp2_with fail
                          go_meet
                          case rel => exact ⟨bool_eq (by rw [show decide ((16 : Int) < (K.size : Int)) = decide (16 < K.size) from decide_eq_decide.2 (by omega), show decide ((32 : Int) < (V.size : Int)) = decide (32 < V.size) from decide_eq_decide.2 (by omega)]; simp), rfl⟩
                    case rest =>
                      obtain ⟨rfl, rfl⟩ := hcut
                      have HCF := hd (pfail_any HST1.out hR hB 3 (by decide))
                      obtain ⟨D, hD⟩ : ∃ D, decide (16 < K.size ∨ 32 < V.size) = D := ⟨_, rfl⟩
                      rw [hD]
                      have HD := hd hD
                      clear hD
                      go_upto_if 113 with fail
                      go_cut [] from 114 to 116 (fun wx => Hid (PSt B R s m k p A ps c w (if D = true then (if E1 = 0 then 3 else E1) else E1) wx))
                      case first =>
                        cases D
                        · go_wp2_with fail
                          go_meet
                          case rel => exact HST1
                        · go_wp2_with fail
                          refine HCF.out.mono ?_
                          rintro e w' ⟨rfl, hst⟩
                          go_wp2_with fail
                          go_meet
                          case rel => exact hst
                      case rest =>
                        obtain ⟨E2, hE2⟩ : ∃ E2 : Int, E2 = (if D = true then (if E1 = 0 then 3 else E1) else E1) := ⟨_, rfl⟩
                        rw [← hE2] at hcut
                        have HE2 := hd hE2
                        have HST2 := hcut
                        clear hE2 hcut HST1 HCF
                        obtain ⟨w2c, hw2c⟩ : ∃ w2c : World, w2c = wc := ⟨_, rfl⟩
                        subst hw2c
                        go_upto_region 22 with fail
                        go_cut [130] from 117 to 129 (fun x wx => x = .bool (decide (0 < ps.length ∧ leB K (prAt ps (ps.length - 1)).1 = true)) ∧ wx = w2c)
                        case first =>
                          by_cases a : 0 < ps.length
                          · have a1 : (0 : Int) < (ps.length : Int) := by omega
                            obtain ⟨gA, oA, hA, hgl, c1, c2⟩ := (rowPL HST2.out.2.1).at_ (k := ps.length - 1) (by omega)
                            obtain ⟨X, hX⟩ : ∃ X, X = (prAt ps (ps.length - 1)).1 := ⟨_, rfl⟩
                            rw [← hX] at c1
                            subst hA
                            have HX := hd hX
                            have i0 : (0 : Int) ≤ (ps.length : Int) - 1 := by omega
                            have i1 : (ps.length : Int) - 1 < (ps.length : Int) := by omega
                            clear c2 hX
                            go_wp2_with fail
                            go_meet
                            case rel => exact ⟨bool_eq (by rw [← HX.out, show decide (0 < ps.length ∧ leB K X = true) = leB K X by simp [a]]; rfl), rfl⟩
                          · have a1 : decide (0 < ps.length) = false := decide_eq_false a
                            go_wp2_with fail
                            go_meet
                            case rel => exact ⟨bool_eq (by simp [a]), rfl⟩
                        case rest =>
                          obtain ⟨rfl, rfl⟩ := hcut
                          have HCF := hd (pfail_any HST2.out hR hB 1 (by decide))
                          obtain ⟨C, hC⟩ : ∃ C, decide (0 < ps.length ∧ leB K (prAt ps (ps.length - 1)).1 = true) = C := ⟨_, rfl⟩
                          rw [hC]
                          have HC3 := hd hC
                          clear hC
                          go_upto_if 130 with fail
                          go_cut [] from 131 to 133 (fun wx => Hid (PSt B R s m k p A ps c w (if C = true then (if E2 = 0 then 1 else E2) else E2) wx))
                          case first =>
                            cases C
                            · go_wp2_with fail
                              go_meet
                              case rel => exact HST2
                            · go_wp2_with fail
                              refine HCF.out.mono ?_
                              rintro e w' ⟨rfl, hst⟩
                              go_wp2_with fail
                              go_meet
                              case rel => exact hst
                          case rest =>
                            obtain ⟨E3, hE3⟩ : ∃ E3 : Int, E3 = (if C = true then (if E2 = 0 then 1 else E2) else E2) := ⟨_, rfl⟩
                            rw [← hE3] at hcut
                            have HCK := hd (show chk (ps ++ [(K, V)]) = E3 by
                              rw [HCS.out, hE3, HE2.out, HE1.out, ← HD.out, ← HC3.out]
                              by_cases q1 : ps.length = 16
                              · simp [q1]
                              · by_cases q2 : 16 < K.size ∨ 32 < V.size
                                · simp [q1, q2]
                                · simp [q1, q2])
                            obtain ⟨ho3, hw3, P, hr3, hp3, hp4⟩ := hcut.out
                            have HO3 := hd ho3
                            have HW3 := hd hw3
                            have HR3 := hd hr3
                            have HP3 := hd (⟨hp3, hp4⟩ : (E3 ≠ 0 → P = (k : Int)) ∧ (E3 = 0 → P = p))
                            have hz3 := ho3.size
                            clear hE3 hcut HST2 HCF HCS HE1 HE2 HD HC3 ho3 hw3 hr3 hp3 hp4
                            obtain ⟨w3c, hw3c⟩ : ∃ w3c : World, w3c = wc := ⟨_, rfl⟩
                            subst hw3c
                            have one : ∀ u ∈ [Value.string K, .string V], u.oneCell' = true := by intro u hu; simp at hu; rcases hu with rfl | rfl <;> rfl
                            go_upto_region 25 with (at_builtin; refine wpList_app1 propG w3c rfl (.tmp 134) (.tmp 138) rfl B (.slice A ps.length c) ps.length (pv ps) [.string K, .string V] rfl HW3.out rfl rfl one (by omega) (by decide) (by omega) ?_; intro A4 c4 w4 hown4 hgrow4 hat4)
                            have e4 : pv ps ++ [Value.string K, .string V] = pv (ps ++ [(K, V)]) := by simp [pv]
                            rw [e4] at hown4
                            have hg4 : ∀ g, (Value.slice A ps.length c).ownBlock = some g → B ≤ g := fun g e => (HW3.out.lt g e).1
                            have hz4 := hgrow4.size
                            have HO4 := hd (show OffB R B w w4 from by
                              have h3 := HO3.out.alloc (.cells #[.string K, .string V] 50) (by omega)
                              refine ⟨hgrow4.os.trans h3.os, hgrow4.tape.trans h3.tape, hgrow4.output.trans h3.output, Nat.le_trans h3.size hz4, fun j hj hr => ?_⟩
                              exact (grown_off (R := R) hgrow4 (by simp; omega) hg4 j hj hr).trans (h3.block j hj hr))
                            have HR4 := hd (show Rf R s m E3 P w4 from ⟨by
                              rw [hgrow4.block R (by have := HR3.out.lt; simp; omega) (fun e => by have := hg4 R e.symm; omega), Below.heap_alloc _ _ _ HR3.out.lt]
                              exact HR3.out.blk⟩)
                            have HW4 := hd hown4
                            have hz4' := HO4.out.size
                            obtain ⟨x0, x1, x2, x3⟩ := HR4.out.cells
                            obtain ⟨z5, hz5⟩ : ∃ z, nextZ s m = z := ⟨_, rfl⟩
                            have h125z := nextZ_is (s := s) (i := m) (c := 125) (by decide)
                            rw [hz5] at h125z
                            have HNq := hd (fun n => quiet_in0 (rfnext_any R s m E3 P (w4.drewN n) (HR4.out.drewN n) z5 hz5 hm2))
                            have hkm : k + 1 ≤ m := by omega
                            have HFok := hd (fun (h0 : E3 = 0) => HE.out.trans (propsP_step (show propP s.data.toList ps k = .ok (K, V) m by rw [HPP.out, HCK.out, if_neg (by simp [h0])])))
                            have HFbad := hd (fun (h0 : E3 ≠ 0) => HE.out.trans (propsP_bad (show propP s.data.toList ps k = .bad k E3 by rw [HPP.out, HCK.out, if_pos h0])))
                            have hlp : (ps ++ [(K, V)]).length = ps.length + 1 := by simp
                            have HLP := hd hlp
                            clear hlp
                            clear e4 hown4 hgrow4 hat4 hg4 hz4 HO3 HW3 HR3 one hz5
                            by_cases h125 : atB s m = some 125
                            · have g1 : (z5 == 125) = true := by have := h125z; simpa [h125] using this
                              have hml := atB_lt h125
                              have g2 : (m : Int) < (s.size : Int) := by omega
                              have H125 := hd h125
                              clear h125z h125
                              go_quiet ((go_at_call 53; exact HNq.out _))
                              have HR5 := hd (HR4.out.drewN nq)
                              have HO5 := hd (HO4.out.drewN nq)
                              have HW5 := hd (row_off HW4.out hR ((OffB.refl R _ _).drewN nq))
                              clear x0 x1 x2 x3 HNq HR4 HO4 HW4
                              generalize w4.drewN nq = w5 at HR5 HO5 HW5 ⊢
                              obtain ⟨x0, x1, x2, x3⟩ := HR5.out.cells
                              obtain ⟨f1, f2, f3⟩ := HR5.out.frees
                              have HR6 := hd (HR5.out.set (m + 1) (z := (m : Int) + 1) (by omega))
                              go_wp2
                              go_ret
                              by_cases hE : E3 = 0
                              · rw [HFok.out hE, if_pos (show s.data.toList[m]? = some 125 from H125.out)]
                                have hP := HP3.out.2 hE
                                subst hE hP
                                exact ⟨HO5.out.set 1 _, HR6.out, A4, c4, by rw [HLP.out]; rfl, by rw [HLP.out]; exact row_off HW5.out hR ((OffB.refl R _ _).set 1 _)⟩
                              · rw [HFbad.out hE]
                                have hP := HP3.out.1 hE
                                subst hP
                                exact ⟨HO5.out.set 1 _, m + 1, A4, _, c4, rfl, by omega, HR6.out⟩
                            · have g1 : (z5 == 125) = false := by have := h125z; simpa [h125] using this
                              have H125 := hd h125
                              clear h125z h125
                              go_quiet ((go_at_call 53; exact HNq.out _))
                              have HR5 := hd (HR4.out.drewN nq)
                              have HO5 := hd (HO4.out.drewN nq)
                              have HW5 := hd (row_off HW4.out hR ((OffB.refl R _ _).drewN nq))
                              clear x0 x1 x2 x3 HNq HR4 HO4 HW4
                              generalize w4.drewN nq = w5 at HR5 HO5 HW5 ⊢
                              have hz5 := HO5.out.size
                              by_cases hE : E3 = 0
                              · have HF := hd ((HFok.out hE).trans (if_neg (show ¬ s.data.toList[m]? = some 125 from H125.out)))
                                have hP := HP3.out.2 hE
                                subst hE hP
                                by_cases h44 : atB s m = some 44
                                · have hml := atB_lt h44
                                  have HT := hd (rftake_yes R s m 44 44 rfl 0 P w5 HR5.out (by omega) h44)
                                  have HF2 := hd (HF.out.trans (if_pos (show s.data.toList[m]? = some 44 from h44)))
                                  clear h44
                                  go_wp2_with fail
                                  refine HT.out.mono ?_
                                  rintro e w6 ⟨rfl, hr6, ho6⟩
                                  have hp6 := hr6.pos_eq
                                  have HX := hd (show PropRel B R s (i + 1) P w (.slice A4 (ps.length + 1) c4) w6 from ⟨HO5.out.trans (ho6.less (by omega)), .inl ⟨ps ++ [(K, V)], m + 1, A4, c4, by rw [HLP.out], by omega, hr6, by rw [HLP.out]; exact row_off HW5.out hR ho6, HCK.out, HF2.out⟩⟩)
                                  clear hr6 ho6
                                  go_wp2
                                  go_roundw
                                  case rel => exact HX
                                  case measure => rw [hp6, hpos]; omega
                                · have HT := hd (rftake_no R s m 44 44 rfl P w5 HR5.out hm2 h44)
                                  have HF2 := hd (HF.out.trans (if_neg (show ¬ s.data.toList[m]? = some 44 from h44)))
                                  clear h44
                                  go_wp2_with fail
                                  refine HT.out.mono ?_
                                  rintro e w6 ⟨rfl, hr6, ho6⟩
                                  have hp6 := hr6.pos_eq
                                  have HX := hd (show PropRel B R s (i + 1) P w (.slice A4 (ps.length + 1) c4) w6 from ⟨HO5.out.trans (ho6.less (by omega)), .inr ⟨m, 11, m, by decide, hm2, hr6, HF2.out⟩⟩)
                                  clear hr6 ho6
                                  go_wp2
                                  go_roundw
                                  case rel => exact HX
                                  case measure => rw [hp6, hpos]; omega
                              · have HF := hd (HFbad.out hE)
                                have hP := HP3.out.1 hE
                                subst hP
                                have HT := hd (rftake_bad R s m 44 44 rfl E3 (k : Int) w5 HR5.out hE hm2 (by omega))
                                have HEE := hd hE
                                clear hE
                                go_wp2_with fail
                                refine HT.out.mono ?_
                                rintro e w6 ⟨rfl, ho6, j6, hj1, hj2, hr6⟩
                                have hp6 := hr6.pos_eq
                                have HX := hd (show PropRel B R s (i + 1) p w (.slice A4 (ps.length + 1) c4) w6 from ⟨HO5.out.trans (ho6.less (by omega)), .inr ⟨j6, E3, k, HEE.out, hj2, hr6, HF.out⟩⟩)
                                clear hr6 ho6
                                go_wp2
                                go_roundw
                                case rel => exact HX
                                case measure => rw [hp6, hpos]; omega
            · have HF := hd (HE.out.trans (propsP_bad (show propP s.data.toList ps k = .bad k2 11 by unfold propP; rw [if_neg (by rw [HJ.out]; exact hkj), HJ.out, if_pos (show s.data.toList[k2]? ≠ some 58 from h58)])))
              have HC := hd (rftake_no R s k2 58 58 rfl p wk HR3.out hk2 h58)
              clear hKe hkj h58
              go_wp2_with fail
              refine HC.out.mono ?_
              rintro e w4 ⟨rfl, hr4, ho4⟩
              have HR4 := hd hr4
              have HO4 := hd (HO3.out.trans (ho4.less (by omega)))
              clear hr4 ho4 HR3 HO3 HW3 HC
              obtain ⟨x0, x1, x2, x3⟩ := HR4.out.cells
              have hkk2 : (k2 : Int) ≤ (k2 : Int) := by omega
              go_wp2_with fail
              clear x0 x1 x2 x3
              go_loopw [] (fun wr => Hid (wr = w4)) (fun _ => 0)
              case atStart => exact rfl
              case round =>
                have hrel2 := hrel.out
                subst hrel2
                obtain ⟨x0, x1, x2, x3⟩ := HR4.out.cells
                go_wp2_with fail
                go_quiet (fail)
                obtain ⟨y0, y1, y2, y3⟩ := (HR4.out.drewN nq).cells
                have HR5 := hd (HR4.out.drewN nq)
                have HO5 := hd (HO4.out.drewN nq)
                go_wp2
                go_ret
                rw [HF.out]
                exact ⟨HO5.out, k2, _, _, _, rfl, hk2, HR5.out⟩
    · obtain ⟨x0, x1, x2, x3⟩ := hr.cells
      have hb : (er == 0) = false := by simpa using hne
      have HO := hd ho
      have HR := hd hr
      have HE := hd he
      clear ho hr he hrel
      go_wp2
      go_ret
      rw [HE.out]
      exact ⟨HO.out, k, _, _, _, rfl, hk, HR.out⟩

end Go.Proofs.YtknkclbjocfhiaaDoor

namespace Go.Proofs.YtknkclbjocfhiaaDoor
open Go.RowKit

/-- What node leaves. -/
def Noded (R : Nat) (s : ByteArray) (r : Res NT) (p : Int) (w : World) (e : Ending) (w' : World) : Prop :=
  OffB R w.heap.size w w' ∧ match r with
  | .bad q er => ∃ j lf PA np pc TA nt tc KA nk kc, e = .returned (.agg #[.bool lf, .slice PA np pc, .slice TA nt tc, .slice KA nk kc]) ∧ j ≤ s.size ∧ Rf R s j er q w'
  | .ok n j => Rf R s j 0 p w' ∧ ∃ u d, e = .returned u ∧ TreeP (fun b => w.heap.size ≤ b ∧ b < w'.heap.size) d w' u n
set_option maxRecDepth 4000 in
/-- One kid more in the row of an element that is read. -/
theorem OpnOk.more {Sp : Nat → Prop} {base d d' : Nat} {wr w1 w' : World} {o : Opn} {u vK' : Value} {m : NT} {lo : Nat}
    (h : OpnOk Sp base d wr o) (hsp : ∀ b, Sp b → base ≤ b ∧ b < wr.heap.size ∧ o.vK.ownBlock ≠ some b) (hx : ∀ b, b < wr.heap.size → Sp b → w1.heap[b]? = wr.heap[b]?)
    (hu : TreeP (fun b => lo ≤ b ∧ b < w1.heap.size) d' w1 u m) (hlo : wr.heap.size ≤ lo) (hbl : base ≤ lo) (hs1 : wr.heap.size ≤ w1.heap.size)
    (hk : ∀ b, base ≤ b → b < w1.heap.size → o.vK.ownBlock ≠ some b → w'.heap[b]? = w1.heap[b]?)
    (hown : w'.ownsRow base 26 4 vK' (o.n.ks.length + 1) (flatK (o.us ++ [u]))) :
    OpnOk (fun b => Sp b ∨ (lo ≤ b ∧ b < w1.heap.size)) base (max d d') w' (o.with1 vK' u m) := by
  have hOw : ∀ b, o.vK.ownBlock = some b → b < wr.heap.size := fun b hb => (h.row.lt b hb).2
  have hkS : ∀ b, Sp b → w'.heap[b]? = wr.heap[b]? := fun b hb => (hk b (hsp b hb).1 (by have := (hsp b hb).2.1; omega) (hsp b hb).2.2).trans (hx b (hsp b hb).2.1 hb)
  have hpq := heap_pq hkS
  have hkU : ∀ b, (lo ≤ b ∧ b < w1.heap.size) → w'.heap[b]? = w1.heap[b]? := fun b hb => hk b (by omega) hb.2 (fun e => by have := hOw b e; omega)
  have eks : (o.with1 vK' u m).n.ks = o.n.ks ++ [m] := by simp [Opn.with1, addK, NT.ks]
  refine ⟨h.np, h.nt, h.pc, h.tc, h.ntl, h.chk, h.props.keep (fun _ h => .inl h) hpq, h.text.keep (fun _ h => .inl h) hpq, ?_, ?_, fun j x hj => ?_⟩
  · rw [eks, List.length_append, List.length_singleton]; exact hown
  · rw [eks, List.length_append, List.length_singleton]
    show (o.us ++ [u]).length = _
    rw [List.length_append, h.len]; rfl
  · rw [eks] at hj
    show ∃ y, (o.us ++ [u])[j]? = some y ∧ _
    rcases Nat.lt_or_ge j o.n.ks.length with hjk | hjk
    · rw [List.getElem?_append_left hjk] at hj
      obtain ⟨y, hy, ht⟩ := h.kids j x hj
      exact ⟨y, by rw [List.getElem?_append_left (by rw [h.len]; exact hjk)]; exact hy, tree_deep (Nat.le_max_left _ _) (ht.keep (fun _ h => .inl h) hpq)⟩
    · rw [List.getElem?_append_right hjk] at hj
      have hj0 : j - o.n.ks.length = 0 := by
        have := (List.getElem?_eq_some_iff.1 hj).1
        simp at this; omega
      rw [hj0] at hj
      simp only [List.getElem?_cons_zero, Option.some.injEq] at hj
      subst hj
      exact ⟨u, by rw [List.getElem?_append_right (by rw [h.len]; exact hjk), h.len, hj0]; rfl, tree_deep (Nat.le_max_right _ _) (hu.keep (fun _ h => .inr h) (heap_pq hkU))⟩

set_option maxRecDepth 4000 in
theorem Rf.far4 {R g i : Nat} {er q : Int} {s : ByteArray} {w : World} (h : Rf R s i er q w) (hq : R ≠ g) (a b c d : Value) : Rf R s i er q ((((w.setCell ⟨g, 0, none⟩ a).setCell ⟨g, 1, none⟩ b).setCell ⟨g, 2, none⟩ c).setCell ⟨g, 3, none⟩ d) := (((h.far hq a).far hq b).far hq c).far hq d
def rferr (R : Nat) (w : World) : Int := match w.cell? ⟨R, 2, none⟩ with | some (.int _ e) => e | _ => 0
set_option maxRecDepth 4000 in
theorem Rf.err_eq {R i : Nat} {e p : Int} {s : ByteArray} {w : World} (h : Rf R s i e p w) : rferr R w = e := by unfold rferr; rw [h.cells.2.2.1]
/-- What holds in a node that is read, of the call's variables. -/
structure In2 (R : Nat) (w : World) (a b c d : Value) (wr : World) : Prop where
  off : OffB R w.heap.size w wr
  out : V4 w.heap.size (.bool false) (.slice none 0 0) (.slice none 0 0) (.slice none 0 0) wr
  own : V4 (w.heap.size + 1) a b c d wr
section
variable {R : Nat} {w wr w' : World} {a b c d x : Value}
set_option maxRecDepth 4000 in
theorem In2.step (h : In2 R w a b c d wr) (hR : R < w.heap.size) (ho : OffB R wr.heap.size wr w') : In2 R w a b c d w' :=
  ⟨h.off.trans (ho.less h.off.size), h.out.off ho (by omega), h.own.off ho (by omega)⟩
set_option maxRecDepth 4000 in
theorem In2.low (h : In2 R w a b c d wr) (hb : Below (w.heap.size + 2) wr w') : In2 R w a b c d w' :=
  ⟨h.off.trans (.of_below hb (by omega)), ⟨(hb.block _ (by omega)).trans h.out.blk⟩, ⟨(hb.block _ (by omega)).trans h.own.blk⟩⟩
set_option maxRecDepth 4000 in
theorem In2.set3 (h : In2 R w a b c d wr) (x : Value) : In2 R w a b c x (wr.setCell ⟨w.heap.size + 1, 3, none⟩ x) := ⟨h.off.far (by omega) x, h.out.far (by omega) x, h.own.set3 x⟩
set_option maxRecDepth 4000 in
theorem In2.set0 (h : In2 R w a b c d wr) (x : Value) : In2 R w x b c d (wr.setCell ⟨w.heap.size + 1, 0, none⟩ x) := ⟨h.off.far (by omega) x, h.out.far (by omega) x, h.own.set0 x⟩
set_option maxRecDepth 4000 in
theorem In2.set1 (h : In2 R w a b c d wr) (x : Value) : In2 R w a x c d (wr.setCell ⟨w.heap.size + 1, 1, none⟩ x) := ⟨h.off.far (by omega) x, h.out.far (by omega) x, h.own.set1 x⟩
set_option maxRecDepth 4000 in
theorem In2.set2 (h : In2 R w a b c d wr) (x : Value) : In2 R w a b x d (wr.setCell ⟨w.heap.size + 1, 2, none⟩ x) := ⟨h.off.far (by omega) x, h.out.far (by omega) x, h.own.set2 x⟩
set_option maxRecDepth 4000 in
theorem In2.setR (h : In2 R w a b c d wr) (hR : R < w.heap.size) (k : Nat) (x : Value) : In2 R w a b c d (wr.setCell ⟨R, k, none⟩ x) := ⟨h.off.set k x, h.out.far (by omega) x, h.own.far (by omega) x⟩
set_option maxRecDepth 4000 in
theorem In2.drewN (h : In2 R w a b c d wr) (n : Nat) : In2 R w a b c d (wr.drewN n) := ⟨h.off.drewN n, h.out.drewN n, h.own.drewN n⟩
end
/-- Between two Kids. -/
def KidRel (R : Nat) (s : ByteArray) (i : Nat) (p : Int) (w wr : World) : Prop :=
  (∃ Sp d o k, In2 R w (.bool o.n.lf) (.slice o.PA o.np o.pc) (.slice o.TA o.nt o.tc) o.vK wr ∧ OpnOk Sp (w.heap.size + 2) d wr o ∧ (∀ b, Sp b → w.heap.size + 2 ≤ b ∧ b < wr.heap.size ∧ o.vK.ownBlock ≠ some b) ∧ Rf R s k 0 p wr ∧ i < k ∧ k ≤ s.size ∧ o.n.ks.length ≤ k ∧ nodeW s.data.toList i = kidsW s.data.toList o.n k) ∨
  (∃ k er q lf PA np pc TA nt tc KA nk kc, er ≠ 0 ∧ In2 R w (.bool lf) (.slice PA np pc) (.slice TA nt tc) (.slice KA nk kc) wr ∧ Rf R s k er (q : Nat) wr ∧ k ≤ s.size ∧ nodeW s.data.toList i = .bad q er)

set_option maxRecDepth 4000 in
set_option maxHeartbeats 16000000 in
theorem rnode_any (R : Nat) (s : ByteArray) (p : Int) (hs : s.size ≤ 40000) : ∀ (t : Nat) (i : Nat) (w : World), s.size - i < t → i ≤ s.size → Rf R s i 0 p w →
    Calls Tryd.prog 29 #[.pointer (some ⟨R, 0, none⟩)] w (Noded R s (nodeW s.data.toList i) p w) := by
  intro t
  induction t with
  | zero => intro i w h; omega
  | succ t ih =>
    intro i w ht hi h
    have hRl := h.lt
    obtain ⟨W0, hW0⟩ : ∃ W0, W0 = w.alloc (.cells #[.bool false, .slice none 0 0, .slice none 0 0, .slice none 0 0] 26) := ⟨_, rfl⟩
    obtain ⟨W1, hW1⟩ : ∃ W1, W1 = W0.alloc (.cells #[.bool false, .slice none 0 0, .slice none 0 0, .slice none 0 0] 26) := ⟨_, rfl⟩
    have hz0 : W0.heap.size = w.heap.size + 1 := by rw [hW0]; simp
    have hz1 : W1.heap.size = w.heap.size + 2 := by rw [hW1]; simp; omega
    have HI1 := hd (show In2 R w (.bool false) (.slice none 0 0) (.slice none 0 0) (.slice none 0 0) W1 from ⟨hW1 ▸ (hW0 ▸ (OffB.refl R w.heap.size w).alloc _ (Nat.le_refl _) : OffB R w.heap.size w W0).alloc _ (by omega), (hW0 ▸ V4.new w _ _ _ _ : V4 w.heap.size (.bool false) (.slice none 0 0) (.slice none 0 0) (.slice none 0 0) W0).below (hW1 ▸ (Below.refl _ _).alloc (Nat.le_refl _) _), hz0 ▸ hW1 ▸ V4.new W0 _ _ _ _⟩)
    have HR1 := hd (show Rf R s i 0 p W1 from hW1 ▸ (hW0 ▸ h.alloc _ : Rf R s i 0 p W0).alloc _)
    have hz1a : w.heap.size + 2 ≤ W1.heap.size := by omega
    obtain ⟨z2, hz2⟩ : ∃ z, nextZ s i = z := ⟨_, rfl⟩
    have h123z := nextZ_is (s := s) (i := i) (c := 123) (by decide)
    rw [hz2] at h123z
    have HN1 := hd (rfnext_any R s i 0 p W1 HR1.out z2 hz2 hi)
    clear hz0 hz1 h hz2
    subst hW1 hW0
    go_enter Tryd.func29, Tryd.ntmps29
    go_wp2_with fail
    refine HN1.out.mono ?_
    rintro e w2 ⟨rfl, kd0, hw2⟩
    have HI2 := hd (hw2 ▸ HI1.out.drewN kd0)
    have HR2a := hd (hw2 ▸ HR1.out.drewN kd0)
    have hz2 : w.heap.size + 2 ≤ w2.heap.size := by rw [hw2]; exact hz1a
    clear hw2 hz1a HI1 HR1
    by_cases h123 : atB s i = some 123
    · have g123 : (z2 == 123) = true := by have := h123z; simpa [h123] using this
      have hil := atB_lt h123
      have HC := hd (rprops_any w2.heap.size R s i p w2 HR2a.out h123 hs (by omega) (Nat.le_refl _))
      have HH := hd (show headP s.data.toList i = propsP s.data.toList [] (i + 1) by unfold headP; rw [if_pos (show s.data.toList[i]? = some 123 from h123)])
      clear h123z h123
      go_wp2_with fail
      refine HC.out.mono ?_
      intro e w3 h3
      cases hp : propsP s.data.toList [] (i + 1) with
      | bad q er =>
        have HF := hd (nodeW_bad (show beginP s.data.toList i = .bad q er by unfold beginP; rw [HH.out, hp]))
        have hne : er ≠ 0 := ((propsP_range _ s.data.toList [] (i + 1) (Nat.le_refl _) (by rw [data_size]; exact hil)).2 q er hp).2
        rw [hp] at h3
        obtain ⟨ho3, k3, A, n3, c, rfl, hk3, hr3⟩ := h3
        have hb : (er != 0) = true := by simpa using hne
        have HI3 := hd (HI2.out.step hRl ho3)
        have HR3 := hd hr3
        clear hp ho3 hr3 hne
        obtain ⟨y0, y1, y2, y3⟩ := HI3.out.own.cells
        obtain ⟨e0, e1, e2, e3⟩ := HI3.out.own.frees
        obtain ⟨u0, u1, u2, u3⟩ := HI3.out.out.cells
        obtain ⟨f0, f1, f2, f3⟩ := HI3.out.out.frees
        obtain ⟨x0, x1, x2, x3⟩ := HR3.out.cells
        go_upto_region 4 with fail
        generalize hW4 : World.setCell w3 _ _ = W4
        have HI4 := hd (hW4 ▸ HI3.out.set1 (.slice A n3 c))
        have HR4 := hd (hW4 ▸ HR3.out.far (q := w.heap.size + 1) (k := 1) (by omega) (.slice A n3 c))
        clear hW4 y0 y1 y2 y3 e0 e1 e2 e3 u0 u1 u2 u3 f0 f1 f2 f3 x0 x1 x2 x3
        obtain ⟨y0, y1, y2, y3⟩ := HI4.out.own.cells
        obtain ⟨u0, u1, u2, u3⟩ := HI4.out.out.cells
        obtain ⟨f0, f1, f2, f3⟩ := HI4.out.out.frees
        obtain ⟨x0, x1, x2, x3⟩ := HR4.out.cells
        go_wp2
        refine bodyPost_ret (v := .agg #[.bool false, .slice A n3 c, .slice none 0 0, .slice none 0 0]) (by simp [results, Tryd.results29, go_sem, u0, u1, u2, u3]) rfl ?_
        rw [HF.out]
        exact ⟨HI4.out.off.far4 (Nat.le_refl _) _ _ _ _, k3, _, _, _, _, _, _, _, _, _, _, rfl, hk3, HR4.out.far4 (by omega) _ _ _ _⟩
      | ok ps j =>
        have HB := hd (show beginP s.data.toList i = bodyP s.data.toList ps j by unfold beginP; rw [HH.out, hp])
        have hpr := (propsP_range _ s.data.toList [] (i + 1) (Nat.le_refl _) (by rw [data_size]; exact hil)).1 ps j hp
        rw [data_size] at hpr
        obtain ⟨hj1, hjs, hck, _⟩ := hpr
        rw [hp] at h3
        obtain ⟨ho3, hr3, A, c, rfl, hw3⟩ := h3
        have hij : i ≤ j := by omega
        have hz3 := ho3.size
        have hnc : ps.length ≤ c := by
          obtain ⟨_, c', e, h1, _⟩ := rowFree hw3
          injection e with _ _ e
          omega
        have HVP := hd (rowVP (P := fun b => w.heap.size + 2 ≤ b ∧ b < w3.heap.size) hw3 fun g hg => ⟨by have := (hw3.lt g hg).1; omega, (hw3.lt g hg).2⟩)
        obtain ⟨np, hnp⟩ : ∃ np, np = ps.length := ⟨_, rfl⟩
        rw [← hnp] at hnc ⊢
        have HNP := hd (⟨hnp, hnc, hck⟩ : np = ps.length ∧ np ≤ c ∧ chk ps = 0)
        have HI3 := hd (HI2.out.step hRl ho3)
        have HR3 := hd hr3
        clear hp ho3 hr3 hw3 hck hnp
        obtain ⟨y0, y1, y2, y3⟩ := HI3.out.own.cells
        obtain ⟨e0, e1, e2, e3⟩ := HI3.out.own.frees
        go_upto_region 4 with fail
        generalize hW4 : World.setCell w3 _ _ = W4
        have HI4 := hd (hW4 ▸ HI3.out.set1 (.slice A np c))
        have HR4 := hd (hW4 ▸ HR3.out.far (q := w.heap.size + 1) (k := 1) (by omega) (.slice A np c))
        have HVP4 := hd (show VP (fun b => w.heap.size + 2 ≤ b ∧ b < W4.heap.size) W4 A (pv ps) from hW4 ▸ HVP.out.off2 (R := R) (g := w.heap.size + 1) ((Off2.refl _ _ w3).setG 1 (.slice A np c)) (fun b hb => ⟨hb.2, by omega, by omega⟩) (fun b hb => ⟨hb.1, by simpa using hb.2⟩))
        clear hW4 y0 y1 y2 y3 e0 e1 e2 e3
        obtain ⟨x0, x1, x2, x3⟩ := HR4.out.cells
        go_upto_region 6 with fail
        clear x0 x1 x2 x3
        obtain ⟨Wj, hWj⟩ : ∃ Wj : World, Wj = W4 := ⟨_, rfl⟩
        subst hWj
        have HIj := HI4
        have HRj := HR4
        have HVPj := HVP4
        have hzj := HIj.out.off.size
        obtain ⟨z6, hz6⟩ : ∃ z, nextZ s j = z := ⟨_, rfl⟩
        have h34z := nextZ_is (s := s) (i := j) (c := 34) (by decide)
        rw [hz6] at h34z
        have HN6 := hd (rfnext_any R s j 0 p Wj HRj.out z6 hz6 hjs)
        go_wp2_with fail
        refine HN6.out.mono ?_
        rintro e w6 ⟨rfl, kd, rfl⟩
        have HI6 := hd (HIj.out.drewN kd)
        have HR6 := hd (HRj.out.drewN kd)
        by_cases h34 : atB s j = some 34
        · have g34 : (z6 == 34) = true := by have := h34z; simpa [h34] using this
          have hjl := atB_lt h34
          clear h34z hz6
          obtain ⟨q, hq⟩ : ∃ q, q = qEnd s.data.toList j := ⟨_, rfl⟩
          obtain ⟨x, at5, er, hu⟩ : ∃ x at5 er, unqS s.data.toList j = (x, at5, er) := ⟨_, _, _, rfl⟩
          have hqr := qEnd_range (show s.data.toList[j]? = some 34 from h34)
          rw [data_size, ← hq] at hqr
          have hpr := unqS_range (show s.data.toList[j]? = some 34 from h34)
          rw [hu, data_size] at hpr
          have hxl := fun (h0 : er = 0) => unqS_len (s := s) h34 (x := x) (p := at5) (by rw [← h0]; exact hu)
          have HB2 := hd (HB.out.trans (show bodyP s.data.toList ps j = if er ≠ 0 then .bad (j + at5.toNat) er else .ok (.mk true ps x []) q by
            unfold bodyP
            rw [if_neg (show ¬ s.data.toList[j]? = some 91 by rw [show s.data.toList[j]? = some 34 from h34]; simp), if_pos (show s.data.toList[j]? = some 34 from h34), hu, hq]))
          have HQE := hd (show q = min (endL (fun b => b != 34) s.data.toList (j + 1) + 1) s.size by rw [hq]; unfold qEnd; rw [data_size])
          have HU := hd (show unqL (cutS s.data.toList j q) = (x, at5, er) by rw [hq]; exact hu)
          clear hq hu h34
          obtain ⟨y0, y1, y2, y3⟩ := HI6.out.own.cells
          obtain ⟨e0, e1, e2, e3⟩ := HI6.out.own.frees
          go_upto_region 8 with fail
          generalize hW7 : World.setCell _ ⟨w.heap.size + 1, 0, none⟩ _ = W7
          have HI7 := hd (hW7 ▸ HI6.out.set0 (.bool true))
          have HR7 := hd (hW7 ▸ HR6.out.far (q := w.heap.size + 1) (k := 0) (by omega) (.bool true))
          have HX7 := hd (hW7 ▸ ((Off2.refl R (w.heap.size + 1) Wj).drewN kd).setG 0 (.bool true))
          have hz7 : W7.heap.size = Wj.heap.size := by rw [← hW7]; simp
          have hz7a : W7.heap.size ≤ Wj.heap.size := by omega
          have hz7b : Wj.heap.size ≤ W7.heap.size := by omega
          clear hW7 y0 y1 y2 y3 e0 e1 e2 e3 HI6 HR6 hz7
          obtain ⟨x0, x1, x2, x3⟩ := HR7.out.cells
          have hj1 : (j : Int) + 1 ≤ (s.size : Int) := by omega
          go_wp2_with fail
          clear x0 x1 x2 x3
          go_loopw [4] (fun v wr => ∃ k : Nat, j + 1 ≤ k ∧ k ≤ s.size ∧ v = .int .i64 k ∧ Hid (wr = W7) ∧ Hid (endL (fun b => b != 34) s.data.toList (j + 1) = endL (fun b => b != 34) s.data.toList k)) (fun v _ => s.size - (intOf v).toNat)
          case atStart => exact ⟨j + 1, Nat.le_refl _, by omega, by simp, hd rfl, hd rfl⟩
          case round =>
            obtain ⟨k, hk1, hk2, rfl, HW, HE⟩ := hrel
            obtain rfl := HW.out
            obtain ⟨x0, x1, x2, x3⟩ := HR7.out.cells
            by_cases hlt : k < s.size
            · have hlt' : (k : Int) < (s.size : Int) := by omega
              obtain ⟨y, hy⟩ : ∃ y : Int, (s[k].toNat : Int) = y := ⟨_, rfl⟩
              by_cases e34 : s[k] = 34
              · have g : (y != 34) = false := by rw [← hy, e34]; rfl
                have hq : q = k + 1 := by
                  rw [HQE.out, HE.out, endB_stop (fun c h => by rw [atB_some hlt, e34] at h; injection h with h; rw [← h]; rfl)]
                  omega
                have HQI := hd (show min ((k : Int) + 1) (s.size : Int) = (q : Int) by omega)
                clear e34 hq HE HQE HW
                obtain ⟨Q, hQ⟩ : ∃ Q, Q = mkB (cutS s.data.toList j q) := ⟨_, rfl⟩
                have hzq : Q.size = q - j := by rw [hQ]; exact mkB_cut_size s j q hqr.2
                have HX := hd ((ex_mk s j q).trans hQ.symm)
                have HC2 := hd (fun (w2 : World) => (show unqL Q.data.toList = (x, at5, er) by rw [hQ, mkB_data]; exact HU.out) ▸ runquote_any Q w2 (by omega))
                have hjq : (j : Int) ≤ (q : Int) := by omega
                have hqs : (q : Int) ≤ (s.size : Int) := by omega
                clear hQ hzq
                go_wp2_with fail
                rw [HQI.out]
                refine Y_start (S := fun W => W.cell? ⟨R, 0, none⟩ = some (.string s) ∧ W.cell? ⟨R, 1, none⟩ = some (.int .i64 j)) (z := fun _ => false) (by kernel_rfl) ?_
                have HSS := hd (show wr.drew.cell? ⟨R, 0, none⟩ = some (.string s) ∧ wr.drew.cell? ⟨R, 1, none⟩ = some (.int .i64 j) from ⟨x0, x1⟩)
                refine Y_take (i := 0) (n := 17) (.pointer (some ⟨R, 0, none⟩)) rfl (by kernel_rfl) (by kernel_rfl) (by kernel_rfl) (by kernel_rfl) (fun _ _ _ h => h) (by rfl) (fun W hW => ?_) HSS.out ?_
                · go_simp
                simp only [Act.put, List.setIfInBounds_toArray]
                refine Y_take (i := 1) (n := 16) (.pointer (some ⟨R, 0, none⟩)) rfl (by kernel_rfl) (by kernel_rfl) (by kernel_rfl) (by kernel_rfl) (fun _ _ _ h => h) (by rfl) (fun W hW => ?_) HSS.out ?_
                · go_simp
                simp only [Act.put]
                refine Y_take (i := 2) (n := 15) (.pointer (some ⟨R, 0, none⟩)) rfl (by kernel_rfl) (by kernel_rfl) (by kernel_rfl) (by kernel_rfl) (fun _ _ _ h => h) (by rfl) (fun W hW => ?_) HSS.out ?_
                · go_simp
                simp only [Act.put]
                refine Y_take (i := 3) (n := 14) (.string s) rfl (by kernel_rfl) (by kernel_rfl) (by kernel_rfl) (by kernel_rfl) (fun _ _ _ h => h) (by rfl) (fun W hW => ?_) HSS.out ?_
                · go_simp
                simp only [Act.put]
                refine Y_take (i := 4) (n := 13) (.pointer (some ⟨R, 0, none⟩)) rfl (by kernel_rfl) (by kernel_rfl) (by kernel_rfl) (by kernel_rfl) (fun _ _ _ h => h) (by rfl) (fun W hW => ?_) HSS.out ?_
                · go_simp
                simp only [Act.put]
                refine Y_take (i := 5) (n := 12) (.pointer (some ⟨R, 0, none⟩)) rfl (by kernel_rfl) (by kernel_rfl) (by kernel_rfl) (by kernel_rfl) (fun _ _ _ h => h) (by rfl) (fun W hW => ?_) HSS.out ?_
                · go_simp
                simp only [Act.put]
                refine Y_take (i := 6) (n := 11) (.pointer (some ⟨R, 1, none⟩)) rfl (by kernel_rfl) (by kernel_rfl) (by kernel_rfl) (by kernel_rfl) (fun _ _ _ h => h) (by rfl) (fun W hW => ?_) HSS.out ?_
                · go_simp
                simp only [Act.put]
                refine Y_take (i := 7) (n := 10) (.int .i64 j) rfl (by kernel_rfl) (by kernel_rfl) (by kernel_rfl) (by kernel_rfl) (fun _ _ _ h => h) (by rfl) (fun W hW => ?_) HSS.out ?_
                · go_simp
                simp only [Act.put]
                refine Y_take (i := 8) (n := 9) (.int .i64 q) rfl (by kernel_rfl) (by kernel_rfl) (by kernel_rfl) (by kernel_rfl) (fun _ _ _ h => h) (by rfl) (fun W hW => ?_) HSS.out ?_
                · go_simp
                simp only [Act.put]
                refine Y_take (i := 9) (n := 8) (.string Q) rfl (by kernel_rfl) (by kernel_rfl) (by kernel_rfl) (by kernel_rfl) (fun _ _ _ h => h) (by rfl) (fun W hW => ?_) HSS.out ?_
                · go_simp
                  rw [HX.out]
                simp only [Act.put]
                refine Y_one (i := 10) (n := 7) (by kernel_rfl) rfl (fun K hK => ?_)
                rw [if_pos (by rfl)]
                go_simp
                go_at_call 55
                refine (HC2.out _).mono ?_
                intro e w8 h8
                obtain ⟨v, rfl, hv8, hb8⟩ := h8
                have HSS := hd (show w8.cell? ⟨R, 0, none⟩ = some (.string s) ∧ w8.cell? ⟨R, 1, none⟩ = some (.int .i64 j) from ⟨(hb8.cell (by show R < wr.heap.size; omega)).trans x0, (hb8.cell (by show R < wr.heap.size; omega)).trans x1⟩)
                refine hK _ _ (fun _ => HSS.out) ?_
                clear hK K
                obtain ⟨nt, hnt⟩ : ∃ nt, nt = x.length := ⟨_, rfl⟩
                obtain ⟨TA, tc, rfl, hxc, _, _, ho8⟩ := hv8.open_at nt (by rw [rv_len, hnt])
                have HNT := hd hnt
                clear hnt
                refine Y_take (i := 11) (n := 6) (.tuple #[.slice TA nt tc, .int .i64 at5, .int .i64 er]) rfl (by kernel_rfl) (by kernel_rfl) (by kernel_rfl) (by kernel_rfl) (fun _ _ _ h => h) (by rfl) (fun W hW => ?_) HSS.out ?_
                · go_simp
                simp only [Act.put]
                refine Y_take (i := 12) (n := 5) (.slice TA nt tc) rfl (by kernel_rfl) (by kernel_rfl) (by kernel_rfl) (by kernel_rfl) (fun _ _ _ h => h) (by rfl) (fun W hW => ?_) HSS.out ?_
                · go_simp
                simp only [Act.put]
                refine Y_take (i := 13) (n := 4) (.int .i64 at5) rfl (by kernel_rfl) (by kernel_rfl) (by kernel_rfl) (by kernel_rfl) (fun _ _ _ h => h) (by rfl) (fun W hW => ?_) HSS.out ?_
                · go_simp
                simp only [Act.put]
                refine Y_take (i := 14) (n := 3) (.int .i64 er) rfl (by kernel_rfl) (by kernel_rfl) (by kernel_rfl) (by kernel_rfl) (fun _ _ _ h => h) (by rfl) (fun W hW => ?_) HSS.out ?_
                · go_simp
                simp only [Act.put]
                refine Y_one (i := 15) (n := 2) (by kernel_rfl) rfl (fun K hK => ?_)
                rw [if_pos (by rfl)]
                go_simp
                refine hK _ _ (fun _ => HSS.out) ?_
                clear hK K
                refine Y_one (i := 16) (n := 1) (by kernel_rfl) rfl (fun K hK => ?_)
                rw [if_pos (by rfl)]
                go_simp
                refine hK _ _ (fun _ => HSS.out) ?_
                clear hK K
                refine Y_one (i := 17) (n := 0) (by kernel_rfl) rfl (fun K hK => ?_)
                rw [if_pos (by rfl)]
                go_simp
                refine hK _ _ (fun _ => HSS.out) (Y_done (by kernel_rfl) ?_)
                clear hK K HSS
                have HB8 := hd (show Below wr.heap.size wr w8 from ((Below.refl _ _).drew).trans hb8)
                have HI8 := hd (HI7.out.step hRl (OffB.of_below HB8.out (Nat.le_refl _)))
                have HR8 := hd (HR7.out.below HB8.out)
                have HX8 := hd (HX7.out.off (.of_below HB8.out (Nat.le_refl _)))
                have HVQ := hd (own_vp1 ho8)
                have hz8 : wr.heap.size ≤ w8.heap.size := HB8.out.size
                have hz8a : wr.drew.heap.size = wr.heap.size := rfl
                clear hb8 hv8 ho8 x0 x1 x2 x3
                obtain ⟨x0, x1, x2, x3⟩ := HR8.out.cells
                obtain ⟨y0, y1, y2, y3⟩ := HI8.out.own.cells
                obtain ⟨e0, e1, e2, e3⟩ := HI8.out.own.frees
                have h2w : w.heap.size + 2 ≤ wr.heap.size := by have := HI7.out.own.lt; omega
                by_cases he : er = 0
                · have hb : (er != 0) = false := by simp [he]
                  have HF := hd (nodeW_leaf (HB2.out.trans (if_neg (by simp [he]))) rfl)
                  have hxl2 := hxl he
                  have HE := hd he
                  clear he hxl
                  go_upto_region 16 with fail
                  generalize hW9 : World.setCell w8 _ _ = W9
                  have HI9 := hd (hW9 ▸ HI8.out.set2 (.slice TA nt tc))
                  have HR9 := hd (hW9 ▸ HR8.out.far (q := w.heap.size + 1) (k := 2) (by omega) (.slice TA nt tc))
                  have HX9 := hd (hW9 ▸ HX8.out.setG 2 (.slice TA nt tc))
                  have HY9 := hd (hW9 ▸ (Off2.refl R (w.heap.size + 1) w8).setG 2 (.slice TA nt tc))
                  clear hW9 x0 x1 x2 x3 y0 y1 y2 y3 e0 e1 e2 e3
                  obtain ⟨x0, x1, x2, x3⟩ := HR9.out.cells
                  obtain ⟨e1, e2, e3⟩ := HR9.out.frees
                  go_upto_region 17 with fail
                  generalize hW10 : World.setCell W9 _ _ = W10
                  have HI10 := hd (hW10 ▸ HI9.out.setR hRl 1 (.int .i64 q))
                  have HR10 := hd (hW10 ▸ HR9.out.set q rfl)
                  have HX10 := hd (hW10 ▸ HX9.out.setR 1 (.int .i64 q))
                  have HY10 := hd (hW10 ▸ HY9.out.setR 1 (.int .i64 q))
                  clear hW10 x0 x1 x2 x3 e1 e2 e3
                  have hz10 := HY10.out.size
                  have hz11 := HX10.out.size
                  have HTR := hd (OpnOk.tree (Sp := fun b => w.heap.size + 2 ≤ b ∧ b < W10.heap.size) (Sq := fun b => w.heap.size + 2 ≤ b ∧ b < W10.heap.size) (base := W10.heap.size) (d := 0) (w := W10) (o := ⟨A, np, c, TA, nt, tc, .slice none 0 0, [], .mk true ps x []⟩)
                    ⟨HNP.out.1, HNT.out, HNP.out.2.1, hxc, by have := HNT.out; show nt ≤ 40000; omega, HNP.out.2.2,
                      HVPj.out.off2 HX10.out (fun b hb => ⟨hb.2, by have := hb.1; omega, by have := hb.1; omega⟩) (fun b hb => ⟨hb.1, by have := hb.2; omega⟩),
                      HVQ.out.off2 HY10.out (fun b hb => ⟨hb.2, by have := hb.1; omega, by have := hb.1; omega⟩) (fun b hb => ⟨by have := hb.1; omega, by have := hb.2; omega⟩),
                      World.ownsRow_nil _ _ _ _, rfl, fun k m hm => by simp [NT.ks] at hm⟩ (by simp [NT.ks]) (fun _ h => h) (fun b hb => by simp [Value.ownBlock] at hb))
                  obtain ⟨y0, y1, y2, y3⟩ := HI10.out.own.cells
                  obtain ⟨u0, u1, u2, u3⟩ := HI10.out.out.cells
                  obtain ⟨f0, f1, f2, f3⟩ := HI10.out.out.frees
                  go_wp2
                  refine bodyPost_ret (v := .agg #[.bool true, (.slice A np c), .slice TA nt tc, .slice none 0 0]) (by simp [results, Tryd.results29, go_sem, u0, u1, u2, u3]) rfl ?_
                  rw [HF.out]
                  refine ⟨HI10.out.off.far4 (Nat.le_refl _) _ _ _ _, HR10.out.far4 (by omega) _ _ _ _, _, 1, rfl, HTR.out.keep (fun b hb => ⟨by omega, by simpa using hb.2⟩) fun q hq => ?_⟩
                  have := ((Off2.refl R w.heap.size W10).set4 (.bool true) (.slice A np c) (.slice TA nt tc) (.slice none 0 0)).block q.block hq.2 (by have := hq.1; omega) (by have := hq.1; omega)
                  exact ⟨World.cell?_of_block this, World.frozen?_of_block this⟩
                · have hb : (er != 0) = true := by simpa using he
                  obtain ⟨hp0, hp1⟩ := hpr he
                  obtain ⟨pn, rfl⟩ : ∃ pn : Nat, at5 = pn := ⟨at5.toNat, by omega⟩
                  simp only [Int.toNat_natCast] at hp1
                  have HF := hd (nodeW_bad (HB2.out.trans (if_pos he)))
                  have HC3 := hd (rfail_ok R s j p er ((j : Int) + (pn : Int)) w8 HR8.out)
                  have HE := hd he
                  clear he hxl hpr
                  go_wp2_with fail
                  refine HC3.out.mono ?_
                  rintro e w9 ⟨rfl, hr9, ho9⟩
                  have HI9 := hd (HI8.out.step hRl ho9)
                  have HR9 := hd (show Rf R s j er ((j + (pn : Int).toNat : Nat) : Int) w9 from by simpa using hr9)
                  clear hr9 ho9 x0 x1 x2 x3 y0 y1 y2 y3 e0 e1 e2 e3
                  obtain ⟨x0, x1, x2, x3⟩ := HR9.out.cells
                  obtain ⟨y0, y1, y2, y3⟩ := HI9.out.own.cells
                  obtain ⟨e0, e1, e2, e3⟩ := HI9.out.own.frees
                  go_upto_region 16 with fail
                  generalize hW10 : World.setCell w9 _ _ = W10
                  have HI10 := hd (hW10 ▸ HI9.out.set2 (.slice TA nt tc))
                  have HR10 := hd (hW10 ▸ HR9.out.far (q := w.heap.size + 1) (k := 2) (by omega) (.slice TA nt tc))
                  clear hW10 x0 x1 x2 x3 y0 y1 y2 y3 e0 e1 e2 e3
                  obtain ⟨x0, x1, x2, x3⟩ := HR10.out.cells
                  obtain ⟨e1, e2, e3⟩ := HR10.out.frees
                  go_upto_region 17 with fail
                  generalize hW11 : World.setCell W10 _ _ = W11
                  have HI11 := hd (hW11 ▸ HI10.out.setR hRl 1 (.int .i64 q))
                  have HR11 := hd (hW11 ▸ HR10.out.set q rfl)
                  clear hW11 x0 x1 x2 x3 e1 e2 e3
                  obtain ⟨y0, y1, y2, y3⟩ := HI11.out.own.cells
                  obtain ⟨u0, u1, u2, u3⟩ := HI11.out.out.cells
                  obtain ⟨f0, f1, f2, f3⟩ := HI11.out.out.frees
                  go_wp2
                  refine bodyPost_ret (v := .agg #[.bool true, (.slice A np c), .slice TA nt tc, .slice none 0 0]) (by simp [results, Tryd.results29, go_sem, u0, u1, u2, u3]) rfl ?_
                  rw [HF.out]
                  exact ⟨HI11.out.off.far4 (Nat.le_refl _) _ _ _ _, q, _, _, _, _, _, _, _, _, _, _, rfl, hqr.2, HR11.out.far4 (by omega) _ _ _ _⟩
              · have g : (y != 34) = true := by
                  rw [← hy]
                  have := byte_ne e34
                  simpa using this
                have HF := hd (HE.out.trans (endB_step (f := fun b => b != 34) (atB_some hlt) (by simpa using e34)))
                clear e34 HE HQE HW
                go_wp2
                go_roundw
                case rel => exact ⟨k + 1, by omega, by omega, by simp, hd trivial, HF⟩
                case measure => simp [intOf]; omega
            · have hlt' : decide (k < s.size) = false := decide_eq_false hlt
              have hke : k = s.size := by omega
              have hq : q = s.size := by
                rw [HQE.out, HE.out, endB_stop (fun c h => by rw [atB_none (by omega)] at h; cases h)]
                omega
              have HQI := hd (show min ((k : Int) + 1) (s.size : Int) = (q : Int) by omega)
              clear HE HQE HW hlt hke hq
              obtain ⟨Q, hQ⟩ : ∃ Q, Q = mkB (cutS s.data.toList j q) := ⟨_, rfl⟩
              have hzq : Q.size = q - j := by rw [hQ]; exact mkB_cut_size s j q hqr.2
              have HX := hd ((ex_mk s j q).trans hQ.symm)
              have HC2 := hd (fun (w2 : World) => (show unqL Q.data.toList = (x, at5, er) by rw [hQ, mkB_data]; exact HU.out) ▸ runquote_any Q w2 (by omega))
              have hjq : (j : Int) ≤ (q : Int) := by omega
              have hqs : (q : Int) ≤ (s.size : Int) := by omega
              clear hQ hzq
              go_wp2_with fail
              rw [HQI.out]
              refine Y_start (S := fun W => W.cell? ⟨R, 0, none⟩ = some (.string s) ∧ W.cell? ⟨R, 1, none⟩ = some (.int .i64 j)) (z := fun _ => false) (by kernel_rfl) ?_
              have HSS := hd (show wr.drew.cell? ⟨R, 0, none⟩ = some (.string s) ∧ wr.drew.cell? ⟨R, 1, none⟩ = some (.int .i64 j) from ⟨x0, x1⟩)
              refine Y_take (i := 0) (n := 17) (.pointer (some ⟨R, 0, none⟩)) rfl (by kernel_rfl) (by kernel_rfl) (by kernel_rfl) (by kernel_rfl) (fun _ _ _ h => h) (by rfl) (fun W hW => ?_) HSS.out ?_
              · go_simp
              simp only [Act.put, List.setIfInBounds_toArray]
              refine Y_take (i := 1) (n := 16) (.pointer (some ⟨R, 0, none⟩)) rfl (by kernel_rfl) (by kernel_rfl) (by kernel_rfl) (by kernel_rfl) (fun _ _ _ h => h) (by rfl) (fun W hW => ?_) HSS.out ?_
              · go_simp
              simp only [Act.put]
              refine Y_take (i := 2) (n := 15) (.pointer (some ⟨R, 0, none⟩)) rfl (by kernel_rfl) (by kernel_rfl) (by kernel_rfl) (by kernel_rfl) (fun _ _ _ h => h) (by rfl) (fun W hW => ?_) HSS.out ?_
              · go_simp
              simp only [Act.put]
              refine Y_take (i := 3) (n := 14) (.string s) rfl (by kernel_rfl) (by kernel_rfl) (by kernel_rfl) (by kernel_rfl) (fun _ _ _ h => h) (by rfl) (fun W hW => ?_) HSS.out ?_
              · go_simp
              simp only [Act.put]
              refine Y_take (i := 4) (n := 13) (.pointer (some ⟨R, 0, none⟩)) rfl (by kernel_rfl) (by kernel_rfl) (by kernel_rfl) (by kernel_rfl) (fun _ _ _ h => h) (by rfl) (fun W hW => ?_) HSS.out ?_
              · go_simp
              simp only [Act.put]
              refine Y_take (i := 5) (n := 12) (.pointer (some ⟨R, 0, none⟩)) rfl (by kernel_rfl) (by kernel_rfl) (by kernel_rfl) (by kernel_rfl) (fun _ _ _ h => h) (by rfl) (fun W hW => ?_) HSS.out ?_
              · go_simp
              simp only [Act.put]
              refine Y_take (i := 6) (n := 11) (.pointer (some ⟨R, 1, none⟩)) rfl (by kernel_rfl) (by kernel_rfl) (by kernel_rfl) (by kernel_rfl) (fun _ _ _ h => h) (by rfl) (fun W hW => ?_) HSS.out ?_
              · go_simp
              simp only [Act.put]
              refine Y_take (i := 7) (n := 10) (.int .i64 j) rfl (by kernel_rfl) (by kernel_rfl) (by kernel_rfl) (by kernel_rfl) (fun _ _ _ h => h) (by rfl) (fun W hW => ?_) HSS.out ?_
              · go_simp
              simp only [Act.put]
              refine Y_take (i := 8) (n := 9) (.int .i64 q) rfl (by kernel_rfl) (by kernel_rfl) (by kernel_rfl) (by kernel_rfl) (fun _ _ _ h => h) (by rfl) (fun W hW => ?_) HSS.out ?_
              · go_simp
              simp only [Act.put]
              refine Y_take (i := 9) (n := 8) (.string Q) rfl (by kernel_rfl) (by kernel_rfl) (by kernel_rfl) (by kernel_rfl) (fun _ _ _ h => h) (by rfl) (fun W hW => ?_) HSS.out ?_
              · go_simp
                rw [HX.out]
              simp only [Act.put]
              refine Y_one (i := 10) (n := 7) (by kernel_rfl) rfl (fun K hK => ?_)
              rw [if_pos (by rfl)]
              go_simp
              go_at_call 55
              refine (HC2.out _).mono ?_
              intro e w8 h8
              obtain ⟨v, rfl, hv8, hb8⟩ := h8
              have HSS := hd (show w8.cell? ⟨R, 0, none⟩ = some (.string s) ∧ w8.cell? ⟨R, 1, none⟩ = some (.int .i64 j) from ⟨(hb8.cell (by show R < wr.heap.size; omega)).trans x0, (hb8.cell (by show R < wr.heap.size; omega)).trans x1⟩)
              refine hK _ _ (fun _ => HSS.out) ?_
              clear hK K
              obtain ⟨nt, hnt⟩ : ∃ nt, nt = x.length := ⟨_, rfl⟩
              obtain ⟨TA, tc, rfl, hxc, _, _, ho8⟩ := hv8.open_at nt (by rw [rv_len, hnt])
              have HNT := hd hnt
              clear hnt
              refine Y_take (i := 11) (n := 6) (.tuple #[.slice TA nt tc, .int .i64 at5, .int .i64 er]) rfl (by kernel_rfl) (by kernel_rfl) (by kernel_rfl) (by kernel_rfl) (fun _ _ _ h => h) (by rfl) (fun W hW => ?_) HSS.out ?_
              · go_simp
              simp only [Act.put]
              refine Y_take (i := 12) (n := 5) (.slice TA nt tc) rfl (by kernel_rfl) (by kernel_rfl) (by kernel_rfl) (by kernel_rfl) (fun _ _ _ h => h) (by rfl) (fun W hW => ?_) HSS.out ?_
              · go_simp
              simp only [Act.put]
              refine Y_take (i := 13) (n := 4) (.int .i64 at5) rfl (by kernel_rfl) (by kernel_rfl) (by kernel_rfl) (by kernel_rfl) (fun _ _ _ h => h) (by rfl) (fun W hW => ?_) HSS.out ?_
              · go_simp
              simp only [Act.put]
              refine Y_take (i := 14) (n := 3) (.int .i64 er) rfl (by kernel_rfl) (by kernel_rfl) (by kernel_rfl) (by kernel_rfl) (fun _ _ _ h => h) (by rfl) (fun W hW => ?_) HSS.out ?_
              · go_simp
              simp only [Act.put]
              refine Y_one (i := 15) (n := 2) (by kernel_rfl) rfl (fun K hK => ?_)
              rw [if_pos (by rfl)]
              go_simp
              refine hK _ _ (fun _ => HSS.out) ?_
              clear hK K
              refine Y_one (i := 16) (n := 1) (by kernel_rfl) rfl (fun K hK => ?_)
              rw [if_pos (by rfl)]
              go_simp
              refine hK _ _ (fun _ => HSS.out) ?_
              clear hK K
              refine Y_one (i := 17) (n := 0) (by kernel_rfl) rfl (fun K hK => ?_)
              rw [if_pos (by rfl)]
              go_simp
              refine hK _ _ (fun _ => HSS.out) (Y_done (by kernel_rfl) ?_)
              clear hK K HSS
              have HB8 := hd (show Below wr.heap.size wr w8 from ((Below.refl _ _).drew).trans hb8)
              have HI8 := hd (HI7.out.step hRl (OffB.of_below HB8.out (Nat.le_refl _)))
              have HR8 := hd (HR7.out.below HB8.out)
              have HX8 := hd (HX7.out.off (.of_below HB8.out (Nat.le_refl _)))
              have HVQ := hd (own_vp1 ho8)
              have hz8 : wr.heap.size ≤ w8.heap.size := HB8.out.size
              have hz8a : wr.drew.heap.size = wr.heap.size := rfl
              clear hb8 hv8 ho8 x0 x1 x2 x3
              obtain ⟨x0, x1, x2, x3⟩ := HR8.out.cells
              obtain ⟨y0, y1, y2, y3⟩ := HI8.out.own.cells
              obtain ⟨e0, e1, e2, e3⟩ := HI8.out.own.frees
              have h2w : w.heap.size + 2 ≤ wr.heap.size := by have := HI7.out.own.lt; omega
              by_cases he : er = 0
              · have hb : (er != 0) = false := by simp [he]
                have HF := hd (nodeW_leaf (HB2.out.trans (if_neg (by simp [he]))) rfl)
                have hxl2 := hxl he
                have HE := hd he
                clear he hxl
                go_upto_region 16 with fail
                generalize hW9 : World.setCell w8 _ _ = W9
                have HI9 := hd (hW9 ▸ HI8.out.set2 (.slice TA nt tc))
                have HR9 := hd (hW9 ▸ HR8.out.far (q := w.heap.size + 1) (k := 2) (by omega) (.slice TA nt tc))
                have HX9 := hd (hW9 ▸ HX8.out.setG 2 (.slice TA nt tc))
                have HY9 := hd (hW9 ▸ (Off2.refl R (w.heap.size + 1) w8).setG 2 (.slice TA nt tc))
                clear hW9 x0 x1 x2 x3 y0 y1 y2 y3 e0 e1 e2 e3
                obtain ⟨x0, x1, x2, x3⟩ := HR9.out.cells
                obtain ⟨e1, e2, e3⟩ := HR9.out.frees
                go_upto_region 17 with fail
                generalize hW10 : World.setCell W9 _ _ = W10
                have HI10 := hd (hW10 ▸ HI9.out.setR hRl 1 (.int .i64 q))
                have HR10 := hd (hW10 ▸ HR9.out.set q rfl)
                have HX10 := hd (hW10 ▸ HX9.out.setR 1 (.int .i64 q))
                have HY10 := hd (hW10 ▸ HY9.out.setR 1 (.int .i64 q))
                clear hW10 x0 x1 x2 x3 e1 e2 e3
                have hz10 := HY10.out.size
                have hz11 := HX10.out.size
                have HTR := hd (OpnOk.tree (Sp := fun b => w.heap.size + 2 ≤ b ∧ b < W10.heap.size) (Sq := fun b => w.heap.size + 2 ≤ b ∧ b < W10.heap.size) (base := W10.heap.size) (d := 0) (w := W10) (o := ⟨A, np, c, TA, nt, tc, .slice none 0 0, [], .mk true ps x []⟩)
                  ⟨HNP.out.1, HNT.out, HNP.out.2.1, hxc, by have := HNT.out; show nt ≤ 40000; omega, HNP.out.2.2,
                    HVPj.out.off2 HX10.out (fun b hb => ⟨hb.2, by have := hb.1; omega, by have := hb.1; omega⟩) (fun b hb => ⟨hb.1, by have := hb.2; omega⟩),
                    HVQ.out.off2 HY10.out (fun b hb => ⟨hb.2, by have := hb.1; omega, by have := hb.1; omega⟩) (fun b hb => ⟨by have := hb.1; omega, by have := hb.2; omega⟩),
                    World.ownsRow_nil _ _ _ _, rfl, fun k m hm => by simp [NT.ks] at hm⟩ (by simp [NT.ks]) (fun _ h => h) (fun b hb => by simp [Value.ownBlock] at hb))
                obtain ⟨y0, y1, y2, y3⟩ := HI10.out.own.cells
                obtain ⟨u0, u1, u2, u3⟩ := HI10.out.out.cells
                obtain ⟨f0, f1, f2, f3⟩ := HI10.out.out.frees
                go_wp2
                refine bodyPost_ret (v := .agg #[.bool true, (.slice A np c), .slice TA nt tc, .slice none 0 0]) (by simp [results, Tryd.results29, go_sem, u0, u1, u2, u3]) rfl ?_
                rw [HF.out]
                refine ⟨HI10.out.off.far4 (Nat.le_refl _) _ _ _ _, HR10.out.far4 (by omega) _ _ _ _, _, 1, rfl, HTR.out.keep (fun b hb => ⟨by omega, by simpa using hb.2⟩) fun q hq => ?_⟩
                have := ((Off2.refl R w.heap.size W10).set4 (.bool true) (.slice A np c) (.slice TA nt tc) (.slice none 0 0)).block q.block hq.2 (by have := hq.1; omega) (by have := hq.1; omega)
                exact ⟨World.cell?_of_block this, World.frozen?_of_block this⟩
              · have hb : (er != 0) = true := by simpa using he
                obtain ⟨hp0, hp1⟩ := hpr he
                obtain ⟨pn, rfl⟩ : ∃ pn : Nat, at5 = pn := ⟨at5.toNat, by omega⟩
                simp only [Int.toNat_natCast] at hp1
                have HF := hd (nodeW_bad (HB2.out.trans (if_pos he)))
                have HC3 := hd (rfail_ok R s j p er ((j : Int) + (pn : Int)) w8 HR8.out)
                have HE := hd he
                clear he hxl hpr
                go_wp2_with fail
                refine HC3.out.mono ?_
                rintro e w9 ⟨rfl, hr9, ho9⟩
                have HI9 := hd (HI8.out.step hRl ho9)
                have HR9 := hd (show Rf R s j er ((j + (pn : Int).toNat : Nat) : Int) w9 from by simpa using hr9)
                clear hr9 ho9 x0 x1 x2 x3 y0 y1 y2 y3 e0 e1 e2 e3
                obtain ⟨x0, x1, x2, x3⟩ := HR9.out.cells
                obtain ⟨y0, y1, y2, y3⟩ := HI9.out.own.cells
                obtain ⟨e0, e1, e2, e3⟩ := HI9.out.own.frees
                go_upto_region 16 with fail
                generalize hW10 : World.setCell w9 _ _ = W10
                have HI10 := hd (hW10 ▸ HI9.out.set2 (.slice TA nt tc))
                have HR10 := hd (hW10 ▸ HR9.out.far (q := w.heap.size + 1) (k := 2) (by omega) (.slice TA nt tc))
                clear hW10 x0 x1 x2 x3 y0 y1 y2 y3 e0 e1 e2 e3
                obtain ⟨x0, x1, x2, x3⟩ := HR10.out.cells
                obtain ⟨e1, e2, e3⟩ := HR10.out.frees
                go_upto_region 17 with fail
                generalize hW11 : World.setCell W10 _ _ = W11
                have HI11 := hd (hW11 ▸ HI10.out.setR hRl 1 (.int .i64 q))
                have HR11 := hd (hW11 ▸ HR10.out.set q rfl)
                clear hW11 x0 x1 x2 x3 e1 e2 e3
                obtain ⟨y0, y1, y2, y3⟩ := HI11.out.own.cells
                obtain ⟨u0, u1, u2, u3⟩ := HI11.out.out.cells
                obtain ⟨f0, f1, f2, f3⟩ := HI11.out.out.frees
                go_wp2
                refine bodyPost_ret (v := .agg #[.bool true, (.slice A np c), .slice TA nt tc, .slice none 0 0]) (by simp [results, Tryd.results29, go_sem, u0, u1, u2, u3]) rfl ?_
                rw [HF.out]
                exact ⟨HI11.out.off.far4 (Nat.le_refl _) _ _ _ _, q, _, _, _, _, _, _, _, _, _, _, rfl, hqr.2, HR11.out.far4 (by omega) _ _ _ _⟩
        · have g34 : (z6 == 34) = false := by have := h34z; simpa [h34] using this
          clear h34z hz6
          by_cases h91 : atB s j = some 91
          · have HT := hd (rftake_yes R s j 91 91 rfl 0 p (Wj.drewN kd) HR6.out (by omega) h91)
            have hjl := atB_lt h91
            have HF := hd (HB.out.trans (show bodyP s.data.toList ps j = .ok (.mk false ps [] []) (j + 1) by unfold bodyP; rw [if_pos (show s.data.toList[j]? = some 91 from h91)]))
            clear h91 h34
            go_wp2_with fail
            refine HT.out.mono ?_
            rintro e w7 ⟨rfl, hr7, ho7⟩
            have HK : Hid (KidRel R s i p w w7) := hd (.inl ⟨fun b => w.heap.size + 2 ≤ b ∧ b < Wj.heap.size, 0, ⟨A, np, c, none, 0, 0, .slice none 0 0, [], .mk false ps [] []⟩, j + 1, HI6.out.step hRl ho7,
              ⟨HNP.out.1, rfl, HNP.out.2.1, Nat.le_refl _, Nat.zero_le _, HNP.out.2.2, HVPj.out.keep (fun _ h => h) (fun q hq => by
                have hq : w.heap.size + 2 ≤ q.block ∧ q.block < Wj.heap.size := hq
                have := ho7.block q.block hq.2 (by omega)
                exact ⟨World.cell?_of_block this, World.frozen?_of_block this⟩), fun k u hu => by simp [rv, NT.tx] at hu, World.ownsRow_nil _ _ _ _, rfl, fun k m hm => by simp [NT.ks] at hm⟩,
              fun b hb => ⟨hb.1, by have := ho7.size; have : (Wj.drewN kd).heap.size = Wj.heap.size := rfl; omega, by simp [Value.ownBlock]⟩, hr7, by omega, by omega, Nat.zero_le _, nodeW_elem (by rw [data_size]; exact hi) HF.out rfl⟩)
            clear hr7 ho7 HR6 HI6 HT
            go_wp2_with fail
            go_loopw [] (fun wr => Hid (KidRel R s i p w wr)) (fun wr => if rferr R wr = 0 then s.size + 2 - rfpos R wr else 0)
            case atStart => exact HK
            case round =>
              clear HK
              rcases hrel.out with ⟨Sp, d, o, k, hIn, hok, hsp, hr, hik, hks, hlen, hN⟩ | ⟨k, er, q, lf, PA, np, pc, TA, nt, tc, KA, nk, kc, hne, hIn, hr, hks, hN⟩
              · obtain ⟨lf, hlf⟩ : ∃ lf, lf = o.n.lf := ⟨_, rfl⟩
                obtain ⟨PA, o1⟩ : ∃ x, x = o.PA := ⟨_, rfl⟩
                obtain ⟨np, o2⟩ : ∃ x, x = o.np := ⟨_, rfl⟩
                obtain ⟨pc, o3⟩ : ∃ x, x = o.pc := ⟨_, rfl⟩
                obtain ⟨TA, o4⟩ : ∃ x, x = o.TA := ⟨_, rfl⟩
                obtain ⟨nt, o5⟩ : ∃ x, x = o.nt := ⟨_, rfl⟩
                obtain ⟨tc, o6⟩ : ∃ x, x = o.tc := ⟨_, rfl⟩
                obtain ⟨nk, o8⟩ : ∃ x, x = o.n.ks.length := ⟨_, rfl⟩
                obtain ⟨KA, kc, o7⟩ : ∃ KA kc, o.vK = .slice KA nk kc := by
                  obtain ⟨KA, kc, e, _⟩ := rowFree hok.row
                  exact ⟨KA, kc, by rw [o8]; exact e⟩
                have hov : o.val = .agg #[.bool lf, .slice PA np pc, .slice TA nt tc, .slice KA nk kc] := Opn.val_of (by unfold Opn.row4; rw [hlf, o1, o2, o3, o4, o5, o6, o7])
                rw [← hlf, ← o1, ← o2, ← o3, ← o4, ← o5, ← o6, o7] at hIn
                rw [← o8] at hlen
                have HIn := hd hIn
                have HOK := hd hok
                have HSP := hd hsp
                have HR := hd hr
                have HN := hd hN
                have HOV := hd hov
                have HO7 := hd o7
                have HO8 := hd o8
                have HOP := hd (⟨hlf, o1, o2, o3, o4, o5, o6⟩ : lf = o.n.lf ∧ PA = o.PA ∧ np = o.np ∧ pc = o.pc ∧ TA = o.TA ∧ nt = o.nt ∧ tc = o.tc)
                have hpos := hr.pos_eq
                have hzr := hIn.off.size
                have hgl := hIn.own.lt
                obtain ⟨z9, hz9⟩ : ∃ z, nextZ s k = z := ⟨_, rfl⟩
                have h93z := nextZ_is (s := s) (i := k) (c := 93) (by decide)
                rw [hz9] at h93z
                have HN9 := hd (rfnext_any R s k 0 p wr HR.out z9 hz9 hks)
                obtain ⟨x0, x1, x2, x3⟩ := HR.out.cells
                clear hIn hok hsp hr hN hlf o1 o2 o3 o4 o5 o6 o7 o8 hov hz9 hrel
                go_wp2_with fail
                refine HN9.out.mono ?_
                rintro e w10 ⟨rfl, kd, rfl⟩
                have HI10 := hd (HIn.out.drewN kd)
                have HR10 := hd (HR.out.drewN kd)
                by_cases h93 : atB s k = some 93
                · have g93 : (z9 != 93) = false := by
                    have h1 : (z9 == 93) = true := by have := h93z; simpa [h93] using this
                    simpa using h1
                  have hkl := atB_lt h93
                  have HF := hd (HN.out.trans (kidsW_end (show s.data.toList[k]? = some 93 from h93)))
                  have HT := hd (rftake_yes R s k 93 93 rfl 0 p (wr.drewN kd) HR10.out (by omega) h93)
                  clear h93z h93 x0 x1 x2 x3
                  go_wp2_with fail
                  refine HT.out.mono ?_
                  rintro e w11 ⟨rfl, hr11, ho11⟩
                  have HI11 := hd (HI10.out.step hRl ho11)
                  have HR11 := hd hr11
                  have HOK11 := hd (HOK.out.keep (w' := w11) (fun _ h => h) fun b hb => by
                    have hbl : w.heap.size + 2 ≤ b ∧ b < wr.heap.size := by
                      rcases hb with hb | hb
                      · exact ⟨(HSP.out b hb).1, (HSP.out b hb).2.1⟩
                      · exact HOK.out.row.lt b hb
                    exact ho11.block b hbl.2 (by omega))
                  have hz11 : wr.heap.size ≤ w11.heap.size := ho11.size
                  have HTR := hd (HOK11.out.tree (Sq := fun b => w.heap.size + 2 ≤ b ∧ b < w11.heap.size) (by rw [← HO8.out]; omega) (fun b hb => ⟨(HSP.out b hb).1, by have := (HSP.out b hb).2.1; omega⟩) (fun b hb => by have := HOK11.out.row.lt b hb; exact this))
                  rw [HOV.out] at HTR
                  have HTR := hd HTR.out
                  clear hr11 ho11
                  obtain ⟨y0, y1, y2, y3⟩ := HI11.out.own.cells
                  obtain ⟨u0, u1, u2, u3⟩ := HI11.out.out.cells
                  obtain ⟨f0, f1, f2, f3⟩ := HI11.out.out.frees
                  go_wp2
                  refine bodyPost_ret (v := .agg #[.bool lf, .slice PA np pc, .slice TA nt tc, .slice KA nk kc]) (by simp [results, Tryd.results29, go_sem, u0, u1, u2, u3]) rfl ?_
                  rw [HF.out]
                  refine ⟨HI11.out.off.far4 (Nat.le_refl _) _ _ _ _, HR11.out.far4 (by omega) _ _ _ _, _, _, rfl, HTR.out.keep (fun b hb => ⟨by omega, by simpa using hb.2⟩) fun q hq => ?_⟩
                  have := ((Off2.refl R w.heap.size w11).set4 (.bool lf) (.slice PA np pc) (.slice TA nt tc) (.slice KA nk kc)).block q.block hq.2 (by have := hq.1; omega) (by have := hq.1; omega)
                  exact ⟨World.cell?_of_block this, World.frozen?_of_block this⟩
                · have g93 : (z9 != 93) = true := by
                    have h1 : (z9 == 93) = false := by have := h93z; simpa [h93] using this
                    simpa using h1
                  have HNW := hd h93
                  clear h93z h93 x0 x1 x2 x3
                  go_upto_region 20 with fail
                  refine Y_start (S := fun W => W.cell? ⟨w.heap.size + 1, 3, none⟩ = some (.slice KA nk kc)) (z := fun k => decide (6 ≤ k)) (by kernel_rfl) ?_
                  obtain ⟨w1, hw1⟩ : ∃ w1, w1 = (wr.drewN kd).drew := ⟨_, rfl⟩
                  rw [← hw1]
                  have HD1 := hd (show OffB R wr.heap.size wr w1 from hw1 ▸ ((OffB.refl R wr.heap.size wr).drewN kd).trans (.of_below ((Below.refl _ _).drew) (Nat.le_refl _)))
                  have hd1 : w1.heap = wr.heap := by rw [hw1]; rfl
                  clear hw1 HI10 HR10
                  have HI1 := hd (HIn.out.step hRl HD1.out)
                  have HR1 := hd (show Rf R s k 0 p w1 from ⟨by rw [hd1]; exact HR.out.blk⟩)
                  have hz1 : w1.heap.size = wr.heap.size := by rw [hd1]
                  have hz1a : wr.heap.size ≤ w1.heap.size := by omega
                  have hz1b : w1.heap.size ≤ wr.heap.size := by omega
                  clear hd1 hz1
                  have HSS := hd (HI1.out.own.cells.2.2.2)
                  have HIH := hd (ih k w1 (by omega) hks HR1.out)
                  refine Y_take (i := 0) (n := 7) (.pointer (some ⟨w.heap.size + 1, 3, none⟩)) rfl (by kernel_rfl) (by kernel_rfl) (by kernel_rfl) (by kernel_rfl) (fun _ _ _ h => h) (by rfl) (fun W hW => ?_) HSS.out ?_
                  · go_simp
                  simp only [Act.put, List.setIfInBounds_toArray]
                  refine Y_take (i := 1) (n := 6) (.slice KA nk kc) rfl (by kernel_rfl) (by kernel_rfl) (by kernel_rfl) (by kernel_rfl) (fun _ _ _ h => h) (by rfl) (fun W hW => ?_) HSS.out ?_
                  · go_simp
                  simp only [Act.put]
                  refine Y_take (i := 2) (n := 5) (.pointer (some ⟨R, 0, none⟩)) rfl (by kernel_rfl) (by kernel_rfl) (by kernel_rfl) (by kernel_rfl) (fun _ _ _ h => h) (by rfl) (fun W hW => ?_) HSS.out ?_
                  · go_simp
                  simp only [Act.put]
                  refine Y_one (i := 3) (n := 4) (by kernel_rfl) rfl (fun K hK => ?_)
                  rw [if_pos (by rfl)]
                  go_simp
                  go_at_call 29
                  refine HIH.out.mono ?_
                  intro e w2 h2
                  have hes := HR.out.err_eq
                  cases hn : nodeW s.data.toList k with
                  | bad q er =>
                    rw [hn] at h2
                    obtain ⟨ho2, j2, lf5, PA5, np5, pc5, TA5, nt5, tc5, KA5, nk5, kc5, rfl, hj2, hr2⟩ := h2
                    have hne := (node_bad (by rw [data_size]; exact hks) hn).2
                    have HF := hd (HN.out.trans (kidsW_bad (show s.data.toList[k]? ≠ some 93 from HNW.out) hn))
                    clear hn
                    have hz2 := ho2.size
                    have HI2 := hd (HI1.out.step hRl ho2)
                    have HR2 := hd hr2
                    have HO2 := hd ho2
                    have HOR := hd (show w2.ownsRow (w.heap.size + 2) 26 4 (.slice KA nk kc) nk (flatK o.us) from by
                      have h1 := HOK.out.row
                      rw [HO7.out, ← HO8.out] at h1
                      exact row_kept h1 fun b hb => (HO2.out.block b (by have := h1.lt b hb; omega) (by have := h1.lt b hb; omega)).trans (HD1.out.block b (by have := h1.lt b hb; omega) (by have := h1.lt b hb; omega)))
                    refine hK _ _ (fun _ => HI2.out.own.cells.2.2.2) ?_
                    clear hK K hr2 ho2
                    have one : ∀ u ∈ [Value.bool lf5, .slice PA5 np5 pc5, .slice TA5 nt5 tc5, .slice KA5 nk5 kc5], u.oneCell' = true := by intro u hu; simp at hu; rcases hu with rfl | rfl | rfl | rfl <;> rfl
                    refine Y_one (i := 4) (n := 3) (by kernel_rfl) rfl (fun K hK => ?_)
                    rw [if_pos (by rfl)]
                    go_simp
                    refine hK _ _ (fun _ => (World.cell?_of_block (Below.heap_alloc _ _ _ HI2.out.own.lt)).trans HI2.out.own.cells.2.2.2) ?_
                    clear hK K
                    refine Y_one (i := 5) (n := 2) (by kernel_rfl) rfl (fun K hK => ?_)
                    refine step_app1 nodeG w2 rfl (.tmp 102) (.tmp 105) rfl (w.heap.size + 2) (.slice KA nk kc) nk (flatK o.us) [.bool lf5, .slice PA5 np5 pc5, .slice TA5 nt5 tc5, .slice KA5 nk5 kc5] rfl HOR.out rfl rfl one (by omega) (by decide) (by have := HI2.out.own.lt; omega) ?_
                    intro A6 c6 w3 hown3 hgrow3 hat3
                    have hB3 : Below (w.heap.size + 2) w2 w3 := ⟨hgrow3.os, hgrow3.tape, hgrow3.output, by have := hgrow3.size; simp at this; omega, fun b hb => (hgrow3.block b (by have := HI2.out.own.lt; simp; omega) (fun e => by have := (HOR.out.lt b e.symm).1; omega)).trans (Below.heap_alloc _ _ _ (by have := HI2.out.own.lt; omega))⟩
                    have HI3 := hd (HI2.out.low hB3)
                    refine hK _ _ (fun _ => HI3.out.own.cells.2.2.2) ?_
                    clear hK K one
                    refine Y_pure (i := 6) (n := 1) (.pointer (some ⟨w.heap.size + 1, 3, none⟩)) rfl rfl (by kernel_rfl) (by kernel_rfl) (by kernel_rfl) (fun _ _ _ h => h) (by rfl) (fun W => ?_) ?_
                    · go_simp
                    simp only [Act.put]
                    have c3 := HI3.out.own.cells.2.2.2
                    have f3 := HI3.out.own.free 3
                    refine Y_one (i := 7) (n := 0) (by kernel_rfl) rfl (fun K hK => ?_)
                    rw [if_pos (by rfl)]
                    go_simp
                    refine hK _ _ (fun h => absurd h (by decide)) (Y_done (by kernel_rfl) ?_)
                    clear hK K c3 f3
                    generalize hW4 : World.setCell w3 _ _ = W4
                    have HI4 := hd (hW4 ▸ HI3.out.set3 (.slice A6 (nk + 1) c6))
                    have HR4 := hd (hW4 ▸ (show Rf R s _ _ _ w3 from ⟨(hB3.block R (by omega)).trans HR2.out.blk⟩).far (q := w.heap.size + 1) (k := 3) (by omega) (.slice A6 (nk + 1) c6))
                    have HB4 := hd (fun (b : Nat) (h0 : w.heap.size + 2 ≤ b) (h1 : b < w2.heap.size) (h2 : (Value.slice KA nk kc).ownBlock ≠ some b) => (show W4.heap[b]? = w2.heap[b]? by
                      rw [← hW4, Below.heap_setCell _ _ _ _ (show b ≠ w.heap.size + 1 by omega), hgrow3.block b (by simp; omega) (fun e => h2 e.symm), Below.heap_alloc _ _ _ h1]))
                    have HOW4 := hd (hW4 ▸ ownsRow_setCell_below hown3 (a := ⟨w.heap.size + 1, 3, none⟩) (by show w.heap.size + 1 < _; omega) (.slice A6 (nk + 1) c6))
                    have HAT := hd hat3
                    have hz4 : w2.heap.size + 1 ≤ W4.heap.size := by rw [← hW4]; have := hgrow3.size; simp at this ⊢; omega
                    clear hW4 hown3 hgrow3 hat3 hB3 HI3
                    have HX := hd (show KidRel R s i p w W4 from .inr ⟨j2, er, q, _, _, _, _, _, _, _, _, _, _, hne, HI4.out, HR4.out, hj2, HF.out⟩)
                    have hm4 := HR4.out.err_eq
                    go_wp2
                    go_roundw
                    case rel => exact HX
                    case measure => rw [hm4, hes, hpos, if_neg hne, if_pos rfl]; omega
                  | ok n5 j5 =>
                    rw [hn] at h2
                    obtain ⟨ho2, hr2, u5, d5, rfl, ht5⟩ := h2
                    have hj5 := node_ok (by rw [data_size]; exact hks) hn
                    rw [data_size] at hj5
                    obtain ⟨hj5a, hj5b⟩ := hj5
                    obtain ⟨lf5, PA5, np5, pc5, TA5, nt5, tc5, KA5, nk5, kc5, rfl⟩ : ∃ lf PA np pc TA nt tc KA nk kc, u5 = .agg #[.bool lf, .slice PA np pc, .slice TA nt tc, .slice KA nk kc] := by
                      cases d5 with
                      | zero => exact ht5.elim
                      | succ d => obtain ⟨PA, pc, TA, tc, KA, kc, e, _⟩ := ht5; exact ⟨_, _, _, _, _, _, _, _, _, _, e⟩
                    have HF := hd (HN.out.trans (kidsW_step (by rw [data_size]; exact hks) (show s.data.toList[k]? ≠ some 93 from HNW.out) hn))
                    have HT5 := hd ht5
                    clear hn ht5
                    have hz2 := ho2.size
                    have HI2 := hd (HI1.out.step hRl ho2)
                    have HR2 := hd hr2
                    have HO2 := hd ho2
                    have HOR := hd (show w2.ownsRow (w.heap.size + 2) 26 4 (.slice KA nk kc) nk (flatK o.us) from by
                      have h1 := HOK.out.row
                      rw [HO7.out, ← HO8.out] at h1
                      exact row_kept h1 fun b hb => (HO2.out.block b (by have := h1.lt b hb; omega) (by have := h1.lt b hb; omega)).trans (HD1.out.block b (by have := h1.lt b hb; omega) (by have := h1.lt b hb; omega)))
                    refine hK _ _ (fun _ => HI2.out.own.cells.2.2.2) ?_
                    clear hK K hr2 ho2
                    have one : ∀ u ∈ [Value.bool lf5, .slice PA5 np5 pc5, .slice TA5 nt5 tc5, .slice KA5 nk5 kc5], u.oneCell' = true := by intro u hu; simp at hu; rcases hu with rfl | rfl | rfl | rfl <;> rfl
                    refine Y_one (i := 4) (n := 3) (by kernel_rfl) rfl (fun K hK => ?_)
                    rw [if_pos (by rfl)]
                    go_simp
                    refine hK _ _ (fun _ => (World.cell?_of_block (Below.heap_alloc _ _ _ HI2.out.own.lt)).trans HI2.out.own.cells.2.2.2) ?_
                    clear hK K
                    refine Y_one (i := 5) (n := 2) (by kernel_rfl) rfl (fun K hK => ?_)
                    refine step_app1 nodeG w2 rfl (.tmp 102) (.tmp 105) rfl (w.heap.size + 2) (.slice KA nk kc) nk (flatK o.us) [.bool lf5, .slice PA5 np5 pc5, .slice TA5 nt5 tc5, .slice KA5 nk5 kc5] rfl HOR.out rfl rfl one (by omega) (by decide) (by have := HI2.out.own.lt; omega) ?_
                    intro A6 c6 w3 hown3 hgrow3 hat3
                    have hB3 : Below (w.heap.size + 2) w2 w3 := ⟨hgrow3.os, hgrow3.tape, hgrow3.output, by have := hgrow3.size; simp at this; omega, fun b hb => (hgrow3.block b (by have := HI2.out.own.lt; simp; omega) (fun e => by have := (HOR.out.lt b e.symm).1; omega)).trans (Below.heap_alloc _ _ _ (by have := HI2.out.own.lt; omega))⟩
                    have HI3 := hd (HI2.out.low hB3)
                    refine hK _ _ (fun _ => HI3.out.own.cells.2.2.2) ?_
                    clear hK K one
                    refine Y_pure (i := 6) (n := 1) (.pointer (some ⟨w.heap.size + 1, 3, none⟩)) rfl rfl (by kernel_rfl) (by kernel_rfl) (by kernel_rfl) (fun _ _ _ h => h) (by rfl) (fun W => ?_) ?_
                    · go_simp
                    simp only [Act.put]
                    have c3 := HI3.out.own.cells.2.2.2
                    have f3 := HI3.out.own.free 3
                    refine Y_one (i := 7) (n := 0) (by kernel_rfl) rfl (fun K hK => ?_)
                    rw [if_pos (by rfl)]
                    go_simp
                    refine hK _ _ (fun h => absurd h (by decide)) (Y_done (by kernel_rfl) ?_)
                    clear hK K c3 f3
                    generalize hW4 : World.setCell w3 _ _ = W4
                    have HI4 := hd (hW4 ▸ HI3.out.set3 (.slice A6 (nk + 1) c6))
                    have HR4 := hd (hW4 ▸ (show Rf R s _ _ _ w3 from ⟨(hB3.block R (by omega)).trans HR2.out.blk⟩).far (q := w.heap.size + 1) (k := 3) (by omega) (.slice A6 (nk + 1) c6))
                    have HB4 := hd (fun (b : Nat) (h0 : w.heap.size + 2 ≤ b) (h1 : b < w2.heap.size) (h2 : (Value.slice KA nk kc).ownBlock ≠ some b) => (show W4.heap[b]? = w2.heap[b]? by
                      rw [← hW4, Below.heap_setCell _ _ _ _ (show b ≠ w.heap.size + 1 by omega), hgrow3.block b (by simp; omega) (fun e => h2 e.symm), Below.heap_alloc _ _ _ h1]))
                    have HOW4 := hd (hW4 ▸ ownsRow_setCell_below hown3 (a := ⟨w.heap.size + 1, 3, none⟩) (by show w.heap.size + 1 < _; omega) (.slice A6 (nk + 1) c6))
                    have HAT := hd hat3
                    have hz4 : w2.heap.size + 1 ≤ W4.heap.size := by rw [← hW4]; have := hgrow3.size; simp at this ⊢; omega
                    clear hW4 hown3 hgrow3 hat3 hB3 HI3
                    have HOM := hd (HOK.out.more (w1 := w2) (w' := W4) (vK' := .slice A6 (nk + 1) c6) (lo := w1.heap.size) HSP.out (fun b h1 hb => (HO2.out.block b (by omega) (by have := (HSP.out b hb).1; omega)).trans (HD1.out.block b h1 (by have := (HSP.out b hb).1; omega))) HT5.out hz1a (by omega) (by omega) (fun b h0 h1 h2 => HB4.out b h0 h1 (by rw [← HO7.out]; exact h2)) (by rw [← HO8.out, flatK_append]; exact HOW4.out))
                    have HX := hd (show KidRel R s i p w W4 from .inl ⟨_, _, o.with1 (.slice A6 (nk + 1) c6) (.agg #[.bool lf5, .slice PA5 np5 pc5, .slice TA5 nt5 tc5, .slice KA5 nk5 kc5]) n5, j5, by
                        have h1 := HI4.out
                        obtain ⟨q1, q2, q3, q4, q5, q6, q7⟩ := HOP.out
                        rw [q1, q2, q3, q4, q5, q6, q7] at h1
                        exact h1, HOM.out, fun b hb => by
                        have hown : ∀ g, (Value.slice KA nk kc).ownBlock = some g → g < wr.heap.size := fun g hg => (HOK.out.row.lt g (by rw [HO7.out]; exact hg)).2
                        rcases hb with hb | hb
                        · have h3 := HSP.out b hb
                          refine ⟨h3.1, by omega, ?_⟩
                          show (Value.slice A6 (nk + 1) c6).ownBlock ≠ some b
                          rcases HAT.out with e | ⟨g, e, hg⟩
                          · rw [e, ← HO7.out]; exact h3.2.2
                          · rw [e]; intro e2; injection e2 with e2; omega
                        · refine ⟨by omega, by omega, ?_⟩
                          show (Value.slice A6 (nk + 1) c6).ownBlock ≠ some b
                          rcases HAT.out with e | ⟨g, e, hg⟩
                          · rw [e]; intro e2; have := hown b e2; omega
                          · rw [e]; intro e2; injection e2 with e2; omega, HR4.out, by omega, by omega, by
                        show (addK o.n n5).ks.length ≤ j5
                        have : (addK o.n n5).ks.length = o.n.ks.length + 1 := by simp [addK, NT.ks]
                        rw [this, ← HO8.out]; omega, HF.out⟩)
                    have hm4 := HR4.out.err_eq
                    have hm5 := HR4.out.pos_eq
                    go_wp2
                    go_roundw
                    case rel => exact HX
                    case measure => rw [hm4, hm5, hes, hpos, if_pos rfl, if_pos rfl]; omega
              · have hb : (er == 0) = false := by simpa using hne
                have HT := hd (rftake_bad R s k 93 93 rfl er (q : Int) wr hr hne hks (by omega))
                have HIn := hd hIn
                have HN := hd hN
                obtain ⟨x0, x1, x2, x3⟩ := hr.cells
                clear hIn hr hN hrel hne
                go_wp2_with fail
                refine HT.out.mono ?_
                rintro e w10 ⟨rfl, ho10, j10, hj1, hj2, hr10⟩
                have HI10 := hd (HIn.out.step hRl ho10)
                have HR10 := hd hr10
                clear hr10 ho10 x0 x1 x2 x3
                obtain ⟨y0, y1, y2, y3⟩ := HI10.out.own.cells
                obtain ⟨u0, u1, u2, u3⟩ := HI10.out.out.cells
                obtain ⟨f0, f1, f2, f3⟩ := HI10.out.out.frees
                go_wp2
                refine bodyPost_ret (v := .agg #[.bool lf, .slice PA np pc, .slice TA nt tc, .slice KA nk kc]) (by simp [results, Tryd.results29, go_sem, u0, u1, u2, u3]) rfl ?_
                rw [HN.out]
                exact ⟨HI10.out.off.far4 (Nat.le_refl _) _ _ _ _, j10, _, _, _, _, _, _, _, _, _, _, rfl, hj2, HR10.out.far4 (by omega) _ _ _ _⟩
          · have HT := hd (rftake_no R s j 91 91 rfl p (Wj.drewN kd) HR6.out hjs h91)
            have HF := hd (nodeW_bad (HB.out.trans (show bodyP s.data.toList ps j = .bad j 11 by unfold bodyP; rw [if_neg (show ¬ s.data.toList[j]? = some 91 from h91), if_neg (show ¬ s.data.toList[j]? = some 34 from h34)])))
            clear h91 h34
            go_wp2_with fail
            refine HT.out.mono ?_
            rintro e w7 ⟨rfl, hr7, ho7⟩
            have HK : Hid (KidRel R s i p w w7) := hd (.inr ⟨j, 11, j, _, _, _, _, _, _, _, _, _, _, by decide, HI6.out.step hRl ho7, hr7, hjs, HF.out⟩)
            clear hr7 ho7 HR6 HI6 HT
            go_wp2_with fail
            go_loopw [] (fun wr => Hid (KidRel R s i p w wr)) (fun wr => if rferr R wr = 0 then s.size + 2 - rfpos R wr else 0)
            case atStart => exact HK
            case round =>
              clear HK
              rcases hrel.out with ⟨Sp, d, o, k, hIn, hok, hsp, hr, hik, hks, hlen, hN⟩ | ⟨k, er, q, lf, PA, np, pc, TA, nt, tc, KA, nk, kc, hne, hIn, hr, hks, hN⟩
              · obtain ⟨lf, hlf⟩ : ∃ lf, lf = o.n.lf := ⟨_, rfl⟩
                obtain ⟨PA, o1⟩ : ∃ x, x = o.PA := ⟨_, rfl⟩
                obtain ⟨np, o2⟩ : ∃ x, x = o.np := ⟨_, rfl⟩
                obtain ⟨pc, o3⟩ : ∃ x, x = o.pc := ⟨_, rfl⟩
                obtain ⟨TA, o4⟩ : ∃ x, x = o.TA := ⟨_, rfl⟩
                obtain ⟨nt, o5⟩ : ∃ x, x = o.nt := ⟨_, rfl⟩
                obtain ⟨tc, o6⟩ : ∃ x, x = o.tc := ⟨_, rfl⟩
                obtain ⟨nk, o8⟩ : ∃ x, x = o.n.ks.length := ⟨_, rfl⟩
                obtain ⟨KA, kc, o7⟩ : ∃ KA kc, o.vK = .slice KA nk kc := by
                  obtain ⟨KA, kc, e, _⟩ := rowFree hok.row
                  exact ⟨KA, kc, by rw [o8]; exact e⟩
                have hov : o.val = .agg #[.bool lf, .slice PA np pc, .slice TA nt tc, .slice KA nk kc] := Opn.val_of (by unfold Opn.row4; rw [hlf, o1, o2, o3, o4, o5, o6, o7])
                rw [← hlf, ← o1, ← o2, ← o3, ← o4, ← o5, ← o6, o7] at hIn
                rw [← o8] at hlen
                have HIn := hd hIn
                have HOK := hd hok
                have HSP := hd hsp
                have HR := hd hr
                have HN := hd hN
                have HOV := hd hov
                have HO7 := hd o7
                have HO8 := hd o8
                have HOP := hd (⟨hlf, o1, o2, o3, o4, o5, o6⟩ : lf = o.n.lf ∧ PA = o.PA ∧ np = o.np ∧ pc = o.pc ∧ TA = o.TA ∧ nt = o.nt ∧ tc = o.tc)
                have hpos := hr.pos_eq
                have hzr := hIn.off.size
                have hgl := hIn.own.lt
                obtain ⟨z9, hz9⟩ : ∃ z, nextZ s k = z := ⟨_, rfl⟩
                have h93z := nextZ_is (s := s) (i := k) (c := 93) (by decide)
                rw [hz9] at h93z
                have HN9 := hd (rfnext_any R s k 0 p wr HR.out z9 hz9 hks)
                obtain ⟨x0, x1, x2, x3⟩ := HR.out.cells
                clear hIn hok hsp hr hN hlf o1 o2 o3 o4 o5 o6 o7 o8 hov hz9 hrel
                go_wp2_with fail
                refine HN9.out.mono ?_
                rintro e w10 ⟨rfl, kd, rfl⟩
                have HI10 := hd (HIn.out.drewN kd)
                have HR10 := hd (HR.out.drewN kd)
                by_cases h93 : atB s k = some 93
                · have g93 : (z9 != 93) = false := by
                    have h1 : (z9 == 93) = true := by have := h93z; simpa [h93] using this
                    simpa using h1
                  have hkl := atB_lt h93
                  have HF := hd (HN.out.trans (kidsW_end (show s.data.toList[k]? = some 93 from h93)))
                  have HT := hd (rftake_yes R s k 93 93 rfl 0 p (wr.drewN kd) HR10.out (by omega) h93)
                  clear h93z h93 x0 x1 x2 x3
                  go_wp2_with fail
                  refine HT.out.mono ?_
                  rintro e w11 ⟨rfl, hr11, ho11⟩
                  have HI11 := hd (HI10.out.step hRl ho11)
                  have HR11 := hd hr11
                  have HOK11 := hd (HOK.out.keep (w' := w11) (fun _ h => h) fun b hb => by
                    have hbl : w.heap.size + 2 ≤ b ∧ b < wr.heap.size := by
                      rcases hb with hb | hb
                      · exact ⟨(HSP.out b hb).1, (HSP.out b hb).2.1⟩
                      · exact HOK.out.row.lt b hb
                    exact ho11.block b hbl.2 (by omega))
                  have hz11 : wr.heap.size ≤ w11.heap.size := ho11.size
                  have HTR := hd (HOK11.out.tree (Sq := fun b => w.heap.size + 2 ≤ b ∧ b < w11.heap.size) (by rw [← HO8.out]; omega) (fun b hb => ⟨(HSP.out b hb).1, by have := (HSP.out b hb).2.1; omega⟩) (fun b hb => by have := HOK11.out.row.lt b hb; exact this))
                  rw [HOV.out] at HTR
                  have HTR := hd HTR.out
                  clear hr11 ho11
                  obtain ⟨y0, y1, y2, y3⟩ := HI11.out.own.cells
                  obtain ⟨u0, u1, u2, u3⟩ := HI11.out.out.cells
                  obtain ⟨f0, f1, f2, f3⟩ := HI11.out.out.frees
                  go_wp2
                  refine bodyPost_ret (v := .agg #[.bool lf, .slice PA np pc, .slice TA nt tc, .slice KA nk kc]) (by simp [results, Tryd.results29, go_sem, u0, u1, u2, u3]) rfl ?_
                  rw [HF.out]
                  refine ⟨HI11.out.off.far4 (Nat.le_refl _) _ _ _ _, HR11.out.far4 (by omega) _ _ _ _, _, _, rfl, HTR.out.keep (fun b hb => ⟨by omega, by simpa using hb.2⟩) fun q hq => ?_⟩
                  have := ((Off2.refl R w.heap.size w11).set4 (.bool lf) (.slice PA np pc) (.slice TA nt tc) (.slice KA nk kc)).block q.block hq.2 (by have := hq.1; omega) (by have := hq.1; omega)
                  exact ⟨World.cell?_of_block this, World.frozen?_of_block this⟩
                · have g93 : (z9 != 93) = true := by
                    have h1 : (z9 == 93) = false := by have := h93z; simpa [h93] using this
                    simpa using h1
                  have HNW := hd h93
                  clear h93z h93 x0 x1 x2 x3
                  go_upto_region 20 with fail
                  refine Y_start (S := fun W => W.cell? ⟨w.heap.size + 1, 3, none⟩ = some (.slice KA nk kc)) (z := fun k => decide (6 ≤ k)) (by kernel_rfl) ?_
                  obtain ⟨w1, hw1⟩ : ∃ w1, w1 = (wr.drewN kd).drew := ⟨_, rfl⟩
                  rw [← hw1]
                  have HD1 := hd (show OffB R wr.heap.size wr w1 from hw1 ▸ ((OffB.refl R wr.heap.size wr).drewN kd).trans (.of_below ((Below.refl _ _).drew) (Nat.le_refl _)))
                  have hd1 : w1.heap = wr.heap := by rw [hw1]; rfl
                  clear hw1 HI10 HR10
                  have HI1 := hd (HIn.out.step hRl HD1.out)
                  have HR1 := hd (show Rf R s k 0 p w1 from ⟨by rw [hd1]; exact HR.out.blk⟩)
                  have hz1 : w1.heap.size = wr.heap.size := by rw [hd1]
                  have hz1a : wr.heap.size ≤ w1.heap.size := by omega
                  have hz1b : w1.heap.size ≤ wr.heap.size := by omega
                  clear hd1 hz1
                  have HSS := hd (HI1.out.own.cells.2.2.2)
                  have HIH := hd (ih k w1 (by omega) hks HR1.out)
                  refine Y_take (i := 0) (n := 7) (.pointer (some ⟨w.heap.size + 1, 3, none⟩)) rfl (by kernel_rfl) (by kernel_rfl) (by kernel_rfl) (by kernel_rfl) (fun _ _ _ h => h) (by rfl) (fun W hW => ?_) HSS.out ?_
                  · go_simp
                  simp only [Act.put, List.setIfInBounds_toArray]
                  refine Y_take (i := 1) (n := 6) (.slice KA nk kc) rfl (by kernel_rfl) (by kernel_rfl) (by kernel_rfl) (by kernel_rfl) (fun _ _ _ h => h) (by rfl) (fun W hW => ?_) HSS.out ?_
                  · go_simp
                  simp only [Act.put]
                  refine Y_take (i := 2) (n := 5) (.pointer (some ⟨R, 0, none⟩)) rfl (by kernel_rfl) (by kernel_rfl) (by kernel_rfl) (by kernel_rfl) (fun _ _ _ h => h) (by rfl) (fun W hW => ?_) HSS.out ?_
                  · go_simp
                  simp only [Act.put]
                  refine Y_one (i := 3) (n := 4) (by kernel_rfl) rfl (fun K hK => ?_)
                  rw [if_pos (by rfl)]
                  go_simp
                  go_at_call 29
                  refine HIH.out.mono ?_
                  intro e w2 h2
                  have hes := HR.out.err_eq
                  cases hn : nodeW s.data.toList k with
                  | bad q er =>
                    rw [hn] at h2
                    obtain ⟨ho2, j2, lf5, PA5, np5, pc5, TA5, nt5, tc5, KA5, nk5, kc5, rfl, hj2, hr2⟩ := h2
                    have hne := (node_bad (by rw [data_size]; exact hks) hn).2
                    have HF := hd (HN.out.trans (kidsW_bad (show s.data.toList[k]? ≠ some 93 from HNW.out) hn))
                    clear hn
                    have hz2 := ho2.size
                    have HI2 := hd (HI1.out.step hRl ho2)
                    have HR2 := hd hr2
                    have HO2 := hd ho2
                    have HOR := hd (show w2.ownsRow (w.heap.size + 2) 26 4 (.slice KA nk kc) nk (flatK o.us) from by
                      have h1 := HOK.out.row
                      rw [HO7.out, ← HO8.out] at h1
                      exact row_kept h1 fun b hb => (HO2.out.block b (by have := h1.lt b hb; omega) (by have := h1.lt b hb; omega)).trans (HD1.out.block b (by have := h1.lt b hb; omega) (by have := h1.lt b hb; omega)))
                    refine hK _ _ (fun _ => HI2.out.own.cells.2.2.2) ?_
                    clear hK K hr2 ho2
                    have one : ∀ u ∈ [Value.bool lf5, .slice PA5 np5 pc5, .slice TA5 nt5 tc5, .slice KA5 nk5 kc5], u.oneCell' = true := by intro u hu; simp at hu; rcases hu with rfl | rfl | rfl | rfl <;> rfl
                    refine Y_one (i := 4) (n := 3) (by kernel_rfl) rfl (fun K hK => ?_)
                    rw [if_pos (by rfl)]
                    go_simp
                    refine hK _ _ (fun _ => (World.cell?_of_block (Below.heap_alloc _ _ _ HI2.out.own.lt)).trans HI2.out.own.cells.2.2.2) ?_
                    clear hK K
                    refine Y_one (i := 5) (n := 2) (by kernel_rfl) rfl (fun K hK => ?_)
                    refine step_app1 nodeG w2 rfl (.tmp 102) (.tmp 105) rfl (w.heap.size + 2) (.slice KA nk kc) nk (flatK o.us) [.bool lf5, .slice PA5 np5 pc5, .slice TA5 nt5 tc5, .slice KA5 nk5 kc5] rfl HOR.out rfl rfl one (by omega) (by decide) (by have := HI2.out.own.lt; omega) ?_
                    intro A6 c6 w3 hown3 hgrow3 hat3
                    have hB3 : Below (w.heap.size + 2) w2 w3 := ⟨hgrow3.os, hgrow3.tape, hgrow3.output, by have := hgrow3.size; simp at this; omega, fun b hb => (hgrow3.block b (by have := HI2.out.own.lt; simp; omega) (fun e => by have := (HOR.out.lt b e.symm).1; omega)).trans (Below.heap_alloc _ _ _ (by have := HI2.out.own.lt; omega))⟩
                    have HI3 := hd (HI2.out.low hB3)
                    refine hK _ _ (fun _ => HI3.out.own.cells.2.2.2) ?_
                    clear hK K one
                    refine Y_pure (i := 6) (n := 1) (.pointer (some ⟨w.heap.size + 1, 3, none⟩)) rfl rfl (by kernel_rfl) (by kernel_rfl) (by kernel_rfl) (fun _ _ _ h => h) (by rfl) (fun W => ?_) ?_
                    · go_simp
                    simp only [Act.put]
                    have c3 := HI3.out.own.cells.2.2.2
                    have f3 := HI3.out.own.free 3
                    refine Y_one (i := 7) (n := 0) (by kernel_rfl) rfl (fun K hK => ?_)
                    rw [if_pos (by rfl)]
                    go_simp
                    refine hK _ _ (fun h => absurd h (by decide)) (Y_done (by kernel_rfl) ?_)
                    clear hK K c3 f3
                    generalize hW4 : World.setCell w3 _ _ = W4
                    have HI4 := hd (hW4 ▸ HI3.out.set3 (.slice A6 (nk + 1) c6))
                    have HR4 := hd (hW4 ▸ (show Rf R s _ _ _ w3 from ⟨(hB3.block R (by omega)).trans HR2.out.blk⟩).far (q := w.heap.size + 1) (k := 3) (by omega) (.slice A6 (nk + 1) c6))
                    have HB4 := hd (fun (b : Nat) (h0 : w.heap.size + 2 ≤ b) (h1 : b < w2.heap.size) (h2 : (Value.slice KA nk kc).ownBlock ≠ some b) => (show W4.heap[b]? = w2.heap[b]? by
                      rw [← hW4, Below.heap_setCell _ _ _ _ (show b ≠ w.heap.size + 1 by omega), hgrow3.block b (by simp; omega) (fun e => h2 e.symm), Below.heap_alloc _ _ _ h1]))
                    have HOW4 := hd (hW4 ▸ ownsRow_setCell_below hown3 (a := ⟨w.heap.size + 1, 3, none⟩) (by show w.heap.size + 1 < _; omega) (.slice A6 (nk + 1) c6))
                    have HAT := hd hat3
                    have hz4 : w2.heap.size + 1 ≤ W4.heap.size := by rw [← hW4]; have := hgrow3.size; simp at this ⊢; omega
                    clear hW4 hown3 hgrow3 hat3 hB3 HI3
                    have HX := hd (show KidRel R s i p w W4 from .inr ⟨j2, er, q, _, _, _, _, _, _, _, _, _, _, hne, HI4.out, HR4.out, hj2, HF.out⟩)
                    have hm4 := HR4.out.err_eq
                    go_wp2
                    go_roundw
                    case rel => exact HX
                    case measure => rw [hm4, hes, hpos, if_neg hne, if_pos rfl]; omega
                  | ok n5 j5 =>
                    rw [hn] at h2
                    obtain ⟨ho2, hr2, u5, d5, rfl, ht5⟩ := h2
                    have hj5 := node_ok (by rw [data_size]; exact hks) hn
                    rw [data_size] at hj5
                    obtain ⟨hj5a, hj5b⟩ := hj5
                    obtain ⟨lf5, PA5, np5, pc5, TA5, nt5, tc5, KA5, nk5, kc5, rfl⟩ : ∃ lf PA np pc TA nt tc KA nk kc, u5 = .agg #[.bool lf, .slice PA np pc, .slice TA nt tc, .slice KA nk kc] := by
                      cases d5 with
                      | zero => exact ht5.elim
                      | succ d => obtain ⟨PA, pc, TA, tc, KA, kc, e, _⟩ := ht5; exact ⟨_, _, _, _, _, _, _, _, _, _, e⟩
                    have HF := hd (HN.out.trans (kidsW_step (by rw [data_size]; exact hks) (show s.data.toList[k]? ≠ some 93 from HNW.out) hn))
                    have HT5 := hd ht5
                    clear hn ht5
                    have hz2 := ho2.size
                    have HI2 := hd (HI1.out.step hRl ho2)
                    have HR2 := hd hr2
                    have HO2 := hd ho2
                    have HOR := hd (show w2.ownsRow (w.heap.size + 2) 26 4 (.slice KA nk kc) nk (flatK o.us) from by
                      have h1 := HOK.out.row
                      rw [HO7.out, ← HO8.out] at h1
                      exact row_kept h1 fun b hb => (HO2.out.block b (by have := h1.lt b hb; omega) (by have := h1.lt b hb; omega)).trans (HD1.out.block b (by have := h1.lt b hb; omega) (by have := h1.lt b hb; omega)))
                    refine hK _ _ (fun _ => HI2.out.own.cells.2.2.2) ?_
                    clear hK K hr2 ho2
                    have one : ∀ u ∈ [Value.bool lf5, .slice PA5 np5 pc5, .slice TA5 nt5 tc5, .slice KA5 nk5 kc5], u.oneCell' = true := by intro u hu; simp at hu; rcases hu with rfl | rfl | rfl | rfl <;> rfl
                    refine Y_one (i := 4) (n := 3) (by kernel_rfl) rfl (fun K hK => ?_)
                    rw [if_pos (by rfl)]
                    go_simp
                    refine hK _ _ (fun _ => (World.cell?_of_block (Below.heap_alloc _ _ _ HI2.out.own.lt)).trans HI2.out.own.cells.2.2.2) ?_
                    clear hK K
                    refine Y_one (i := 5) (n := 2) (by kernel_rfl) rfl (fun K hK => ?_)
                    refine step_app1 nodeG w2 rfl (.tmp 102) (.tmp 105) rfl (w.heap.size + 2) (.slice KA nk kc) nk (flatK o.us) [.bool lf5, .slice PA5 np5 pc5, .slice TA5 nt5 tc5, .slice KA5 nk5 kc5] rfl HOR.out rfl rfl one (by omega) (by decide) (by have := HI2.out.own.lt; omega) ?_
                    intro A6 c6 w3 hown3 hgrow3 hat3
                    have hB3 : Below (w.heap.size + 2) w2 w3 := ⟨hgrow3.os, hgrow3.tape, hgrow3.output, by have := hgrow3.size; simp at this; omega, fun b hb => (hgrow3.block b (by have := HI2.out.own.lt; simp; omega) (fun e => by have := (HOR.out.lt b e.symm).1; omega)).trans (Below.heap_alloc _ _ _ (by have := HI2.out.own.lt; omega))⟩
                    have HI3 := hd (HI2.out.low hB3)
                    refine hK _ _ (fun _ => HI3.out.own.cells.2.2.2) ?_
                    clear hK K one
                    refine Y_pure (i := 6) (n := 1) (.pointer (some ⟨w.heap.size + 1, 3, none⟩)) rfl rfl (by kernel_rfl) (by kernel_rfl) (by kernel_rfl) (fun _ _ _ h => h) (by rfl) (fun W => ?_) ?_
                    · go_simp
                    simp only [Act.put]
                    have c3 := HI3.out.own.cells.2.2.2
                    have f3 := HI3.out.own.free 3
                    refine Y_one (i := 7) (n := 0) (by kernel_rfl) rfl (fun K hK => ?_)
                    rw [if_pos (by rfl)]
                    go_simp
                    refine hK _ _ (fun h => absurd h (by decide)) (Y_done (by kernel_rfl) ?_)
                    clear hK K c3 f3
                    generalize hW4 : World.setCell w3 _ _ = W4
                    have HI4 := hd (hW4 ▸ HI3.out.set3 (.slice A6 (nk + 1) c6))
                    have HR4 := hd (hW4 ▸ (show Rf R s _ _ _ w3 from ⟨(hB3.block R (by omega)).trans HR2.out.blk⟩).far (q := w.heap.size + 1) (k := 3) (by omega) (.slice A6 (nk + 1) c6))
                    have HB4 := hd (fun (b : Nat) (h0 : w.heap.size + 2 ≤ b) (h1 : b < w2.heap.size) (h2 : (Value.slice KA nk kc).ownBlock ≠ some b) => (show W4.heap[b]? = w2.heap[b]? by
                      rw [← hW4, Below.heap_setCell _ _ _ _ (show b ≠ w.heap.size + 1 by omega), hgrow3.block b (by simp; omega) (fun e => h2 e.symm), Below.heap_alloc _ _ _ h1]))
                    have HOW4 := hd (hW4 ▸ ownsRow_setCell_below hown3 (a := ⟨w.heap.size + 1, 3, none⟩) (by show w.heap.size + 1 < _; omega) (.slice A6 (nk + 1) c6))
                    have HAT := hd hat3
                    have hz4 : w2.heap.size + 1 ≤ W4.heap.size := by rw [← hW4]; have := hgrow3.size; simp at this ⊢; omega
                    clear hW4 hown3 hgrow3 hat3 hB3 HI3
                    have HOM := hd (HOK.out.more (w1 := w2) (w' := W4) (vK' := .slice A6 (nk + 1) c6) (lo := w1.heap.size) HSP.out (fun b h1 hb => (HO2.out.block b (by omega) (by have := (HSP.out b hb).1; omega)).trans (HD1.out.block b h1 (by have := (HSP.out b hb).1; omega))) HT5.out hz1a (by omega) (by omega) (fun b h0 h1 h2 => HB4.out b h0 h1 (by rw [← HO7.out]; exact h2)) (by rw [← HO8.out, flatK_append]; exact HOW4.out))
                    have HX := hd (show KidRel R s i p w W4 from .inl ⟨_, _, o.with1 (.slice A6 (nk + 1) c6) (.agg #[.bool lf5, .slice PA5 np5 pc5, .slice TA5 nt5 tc5, .slice KA5 nk5 kc5]) n5, j5, by
                        have h1 := HI4.out
                        obtain ⟨q1, q2, q3, q4, q5, q6, q7⟩ := HOP.out
                        rw [q1, q2, q3, q4, q5, q6, q7] at h1
                        exact h1, HOM.out, fun b hb => by
                        have hown : ∀ g, (Value.slice KA nk kc).ownBlock = some g → g < wr.heap.size := fun g hg => (HOK.out.row.lt g (by rw [HO7.out]; exact hg)).2
                        rcases hb with hb | hb
                        · have h3 := HSP.out b hb
                          refine ⟨h3.1, by omega, ?_⟩
                          show (Value.slice A6 (nk + 1) c6).ownBlock ≠ some b
                          rcases HAT.out with e | ⟨g, e, hg⟩
                          · rw [e, ← HO7.out]; exact h3.2.2
                          · rw [e]; intro e2; injection e2 with e2; omega
                        · refine ⟨by omega, by omega, ?_⟩
                          show (Value.slice A6 (nk + 1) c6).ownBlock ≠ some b
                          rcases HAT.out with e | ⟨g, e, hg⟩
                          · rw [e]; intro e2; have := hown b e2; omega
                          · rw [e]; intro e2; injection e2 with e2; omega, HR4.out, by omega, by omega, by
                        show (addK o.n n5).ks.length ≤ j5
                        have : (addK o.n n5).ks.length = o.n.ks.length + 1 := by simp [addK, NT.ks]
                        rw [this, ← HO8.out]; omega, HF.out⟩)
                    have hm4 := HR4.out.err_eq
                    have hm5 := HR4.out.pos_eq
                    go_wp2
                    go_roundw
                    case rel => exact HX
                    case measure => rw [hm4, hm5, hes, hpos, if_pos rfl, if_pos rfl]; omega
              · have hb : (er == 0) = false := by simpa using hne
                have HT := hd (rftake_bad R s k 93 93 rfl er (q : Int) wr hr hne hks (by omega))
                have HIn := hd hIn
                have HN := hd hN
                obtain ⟨x0, x1, x2, x3⟩ := hr.cells
                clear hIn hr hN hrel hne
                go_wp2_with fail
                refine HT.out.mono ?_
                rintro e w10 ⟨rfl, ho10, j10, hj1, hj2, hr10⟩
                have HI10 := hd (HIn.out.step hRl ho10)
                have HR10 := hd hr10
                clear hr10 ho10 x0 x1 x2 x3
                obtain ⟨y0, y1, y2, y3⟩ := HI10.out.own.cells
                obtain ⟨u0, u1, u2, u3⟩ := HI10.out.out.cells
                obtain ⟨f0, f1, f2, f3⟩ := HI10.out.out.frees
                go_wp2
                refine bodyPost_ret (v := .agg #[.bool lf, .slice PA np pc, .slice TA nt tc, .slice KA nk kc]) (by simp [results, Tryd.results29, go_sem, u0, u1, u2, u3]) rfl ?_
                rw [HN.out]
                exact ⟨HI10.out.off.far4 (Nat.le_refl _) _ _ _ _, j10, _, _, _, _, _, _, _, _, _, _, rfl, hj2, HR10.out.far4 (by omega) _ _ _ _⟩
    · have g123 : (z2 == 123) = false := by have := h123z; simpa [h123] using this
      obtain ⟨ps, hps⟩ : ∃ ps : List Pr, ps = [] := ⟨_, rfl⟩
      obtain ⟨j, hj⟩ : ∃ j, j = i := ⟨_, rfl⟩
      have HB := hd (show beginP s.data.toList i = bodyP s.data.toList ps j by
        unfold beginP headP
        rw [if_neg (show ¬ s.data.toList[i]? = some 123 from h123), hps, hj])
      have HNP := hd (show 0 = ps.length ∧ 0 ≤ 0 ∧ chk ps = 0 from ⟨by rw [hps]; rfl, Nat.le_refl _, by rw [hps]; rfl⟩)
      have hij : i ≤ j := by omega
      have hjs : j ≤ s.size := by omega
      have HJ := hd hj
      have HVPn := hd (fun (X : World) (P : Nat → Prop) => (show VP P X none (pv ps) from fun k u hu => by rw [hps] at hu; simp [pv] at hu))
      clear h123z h123 hps hj
      obtain ⟨x0, x1, x2, x3⟩ := HR2a.out.cells
      have HR2 := hd (show Rf R s j 0 p _ from HJ.out ▸ HR2a.out)
      go_upto_region 6 with fail
      obtain ⟨Wj, hWj⟩ : ∃ Wj : World, Wj = w2 := ⟨_, rfl⟩
      subst hWj
      have HIj := HI2
      have HRj := HR2
      have HVPj := hd (HVPn.out Wj (fun b => w.heap.size + 2 ≤ b ∧ b < Wj.heap.size))
      clear x0 x1 x2 x3 HR2 HVPn
      have hzj := HIj.out.off.size
      obtain ⟨z6, hz6⟩ : ∃ z, nextZ s j = z := ⟨_, rfl⟩
      have h34z := nextZ_is (s := s) (i := j) (c := 34) (by decide)
      rw [hz6] at h34z
      have HN6 := hd (rfnext_any R s j 0 p Wj HRj.out z6 hz6 hjs)
      go_wp2_with fail
      refine HN6.out.mono ?_
      rintro e w6 ⟨rfl, kd, rfl⟩
      have HI6 := hd (HIj.out.drewN kd)
      have HR6 := hd (HRj.out.drewN kd)
      by_cases h34 : atB s j = some 34
      · have g34 : (z6 == 34) = true := by have := h34z; simpa [h34] using this
        have hjl := atB_lt h34
        clear h34z hz6
        obtain ⟨q, hq⟩ : ∃ q, q = qEnd s.data.toList j := ⟨_, rfl⟩
        obtain ⟨x, at5, er, hu⟩ : ∃ x at5 er, unqS s.data.toList j = (x, at5, er) := ⟨_, _, _, rfl⟩
        have hqr := qEnd_range (show s.data.toList[j]? = some 34 from h34)
        rw [data_size, ← hq] at hqr
        have hpr := unqS_range (show s.data.toList[j]? = some 34 from h34)
        rw [hu, data_size] at hpr
        have hxl := fun (h0 : er = 0) => unqS_len (s := s) h34 (x := x) (p := at5) (by rw [← h0]; exact hu)
        have HB2 := hd (HB.out.trans (show bodyP s.data.toList ps j = if er ≠ 0 then .bad (j + at5.toNat) er else .ok (.mk true ps x []) q by
          unfold bodyP
          rw [if_neg (show ¬ s.data.toList[j]? = some 91 by rw [show s.data.toList[j]? = some 34 from h34]; simp), if_pos (show s.data.toList[j]? = some 34 from h34), hu, hq]))
        have HQE := hd (show q = min (endL (fun b => b != 34) s.data.toList (j + 1) + 1) s.size by rw [hq]; unfold qEnd; rw [data_size])
        have HU := hd (show unqL (cutS s.data.toList j q) = (x, at5, er) by rw [hq]; exact hu)
        clear hq hu h34
        obtain ⟨y0, y1, y2, y3⟩ := HI6.out.own.cells
        obtain ⟨e0, e1, e2, e3⟩ := HI6.out.own.frees
        go_upto_region 8 with fail
        generalize hW7 : World.setCell _ ⟨w.heap.size + 1, 0, none⟩ _ = W7
        have HI7 := hd (hW7 ▸ HI6.out.set0 (.bool true))
        have HR7 := hd (hW7 ▸ HR6.out.far (q := w.heap.size + 1) (k := 0) (by omega) (.bool true))
        have HX7 := hd (hW7 ▸ ((Off2.refl R (w.heap.size + 1) Wj).drewN kd).setG 0 (.bool true))
        have hz7 : W7.heap.size = Wj.heap.size := by rw [← hW7]; simp
        have hz7a : W7.heap.size ≤ Wj.heap.size := by omega
        have hz7b : Wj.heap.size ≤ W7.heap.size := by omega
        clear hW7 y0 y1 y2 y3 e0 e1 e2 e3 HI6 HR6 hz7
        obtain ⟨x0, x1, x2, x3⟩ := HR7.out.cells
        have hj1 : (j : Int) + 1 ≤ (s.size : Int) := by omega
        go_wp2_with fail
        clear x0 x1 x2 x3
        go_loopw [4] (fun v wr => ∃ k : Nat, j + 1 ≤ k ∧ k ≤ s.size ∧ v = .int .i64 k ∧ Hid (wr = W7) ∧ Hid (endL (fun b => b != 34) s.data.toList (j + 1) = endL (fun b => b != 34) s.data.toList k)) (fun v _ => s.size - (intOf v).toNat)
        case atStart => exact ⟨j + 1, Nat.le_refl _, by omega, by simp, hd rfl, hd rfl⟩
        case round =>
          obtain ⟨k, hk1, hk2, rfl, HW, HE⟩ := hrel
          obtain rfl := HW.out
          obtain ⟨x0, x1, x2, x3⟩ := HR7.out.cells
          by_cases hlt : k < s.size
          · have hlt' : (k : Int) < (s.size : Int) := by omega
            obtain ⟨y, hy⟩ : ∃ y : Int, (s[k].toNat : Int) = y := ⟨_, rfl⟩
            by_cases e34 : s[k] = 34
            · have g : (y != 34) = false := by rw [← hy, e34]; rfl
              have hq : q = k + 1 := by
                rw [HQE.out, HE.out, endB_stop (fun c h => by rw [atB_some hlt, e34] at h; injection h with h; rw [← h]; rfl)]
                omega
              have HQI := hd (show min ((k : Int) + 1) (s.size : Int) = (q : Int) by omega)
              clear e34 hq HE HQE HW
              obtain ⟨Q, hQ⟩ : ∃ Q, Q = mkB (cutS s.data.toList j q) := ⟨_, rfl⟩
              have hzq : Q.size = q - j := by rw [hQ]; exact mkB_cut_size s j q hqr.2
              have HX := hd ((ex_mk s j q).trans hQ.symm)
              have HC2 := hd (fun (w2 : World) => (show unqL Q.data.toList = (x, at5, er) by rw [hQ, mkB_data]; exact HU.out) ▸ runquote_any Q w2 (by omega))
              have hjq : (j : Int) ≤ (q : Int) := by omega
              have hqs : (q : Int) ≤ (s.size : Int) := by omega
              clear hQ hzq
              go_wp2_with fail
              rw [HQI.out]
              refine Y_start (S := fun W => W.cell? ⟨R, 0, none⟩ = some (.string s) ∧ W.cell? ⟨R, 1, none⟩ = some (.int .i64 j)) (z := fun _ => false) (by kernel_rfl) ?_
              have HSS := hd (show wr.drew.cell? ⟨R, 0, none⟩ = some (.string s) ∧ wr.drew.cell? ⟨R, 1, none⟩ = some (.int .i64 j) from ⟨x0, x1⟩)
              refine Y_take (i := 0) (n := 17) (.pointer (some ⟨R, 0, none⟩)) rfl (by kernel_rfl) (by kernel_rfl) (by kernel_rfl) (by kernel_rfl) (fun _ _ _ h => h) (by rfl) (fun W hW => ?_) HSS.out ?_
              · go_simp
              simp only [Act.put, List.setIfInBounds_toArray]
              refine Y_take (i := 1) (n := 16) (.pointer (some ⟨R, 0, none⟩)) rfl (by kernel_rfl) (by kernel_rfl) (by kernel_rfl) (by kernel_rfl) (fun _ _ _ h => h) (by rfl) (fun W hW => ?_) HSS.out ?_
              · go_simp
              simp only [Act.put]
              refine Y_take (i := 2) (n := 15) (.pointer (some ⟨R, 0, none⟩)) rfl (by kernel_rfl) (by kernel_rfl) (by kernel_rfl) (by kernel_rfl) (fun _ _ _ h => h) (by rfl) (fun W hW => ?_) HSS.out ?_
              · go_simp
              simp only [Act.put]
              refine Y_take (i := 3) (n := 14) (.string s) rfl (by kernel_rfl) (by kernel_rfl) (by kernel_rfl) (by kernel_rfl) (fun _ _ _ h => h) (by rfl) (fun W hW => ?_) HSS.out ?_
              · go_simp
              simp only [Act.put]
              refine Y_take (i := 4) (n := 13) (.pointer (some ⟨R, 0, none⟩)) rfl (by kernel_rfl) (by kernel_rfl) (by kernel_rfl) (by kernel_rfl) (fun _ _ _ h => h) (by rfl) (fun W hW => ?_) HSS.out ?_
              · go_simp
              simp only [Act.put]
              refine Y_take (i := 5) (n := 12) (.pointer (some ⟨R, 0, none⟩)) rfl (by kernel_rfl) (by kernel_rfl) (by kernel_rfl) (by kernel_rfl) (fun _ _ _ h => h) (by rfl) (fun W hW => ?_) HSS.out ?_
              · go_simp
              simp only [Act.put]
              refine Y_take (i := 6) (n := 11) (.pointer (some ⟨R, 1, none⟩)) rfl (by kernel_rfl) (by kernel_rfl) (by kernel_rfl) (by kernel_rfl) (fun _ _ _ h => h) (by rfl) (fun W hW => ?_) HSS.out ?_
              · go_simp
              simp only [Act.put]
              refine Y_take (i := 7) (n := 10) (.int .i64 j) rfl (by kernel_rfl) (by kernel_rfl) (by kernel_rfl) (by kernel_rfl) (fun _ _ _ h => h) (by rfl) (fun W hW => ?_) HSS.out ?_
              · go_simp
              simp only [Act.put]
              refine Y_take (i := 8) (n := 9) (.int .i64 q) rfl (by kernel_rfl) (by kernel_rfl) (by kernel_rfl) (by kernel_rfl) (fun _ _ _ h => h) (by rfl) (fun W hW => ?_) HSS.out ?_
              · go_simp
              simp only [Act.put]
              refine Y_take (i := 9) (n := 8) (.string Q) rfl (by kernel_rfl) (by kernel_rfl) (by kernel_rfl) (by kernel_rfl) (fun _ _ _ h => h) (by rfl) (fun W hW => ?_) HSS.out ?_
              · go_simp
                rw [HX.out]
              simp only [Act.put]
              refine Y_one (i := 10) (n := 7) (by kernel_rfl) rfl (fun K hK => ?_)
              rw [if_pos (by rfl)]
              go_simp
              go_at_call 55
              refine (HC2.out _).mono ?_
              intro e w8 h8
              obtain ⟨v, rfl, hv8, hb8⟩ := h8
              have HSS := hd (show w8.cell? ⟨R, 0, none⟩ = some (.string s) ∧ w8.cell? ⟨R, 1, none⟩ = some (.int .i64 j) from ⟨(hb8.cell (by show R < wr.heap.size; omega)).trans x0, (hb8.cell (by show R < wr.heap.size; omega)).trans x1⟩)
              refine hK _ _ (fun _ => HSS.out) ?_
              clear hK K
              obtain ⟨nt, hnt⟩ : ∃ nt, nt = x.length := ⟨_, rfl⟩
              obtain ⟨TA, tc, rfl, hxc, _, _, ho8⟩ := hv8.open_at nt (by rw [rv_len, hnt])
              have HNT := hd hnt
              clear hnt
              refine Y_take (i := 11) (n := 6) (.tuple #[.slice TA nt tc, .int .i64 at5, .int .i64 er]) rfl (by kernel_rfl) (by kernel_rfl) (by kernel_rfl) (by kernel_rfl) (fun _ _ _ h => h) (by rfl) (fun W hW => ?_) HSS.out ?_
              · go_simp
              simp only [Act.put]
              refine Y_take (i := 12) (n := 5) (.slice TA nt tc) rfl (by kernel_rfl) (by kernel_rfl) (by kernel_rfl) (by kernel_rfl) (fun _ _ _ h => h) (by rfl) (fun W hW => ?_) HSS.out ?_
              · go_simp
              simp only [Act.put]
              refine Y_take (i := 13) (n := 4) (.int .i64 at5) rfl (by kernel_rfl) (by kernel_rfl) (by kernel_rfl) (by kernel_rfl) (fun _ _ _ h => h) (by rfl) (fun W hW => ?_) HSS.out ?_
              · go_simp
              simp only [Act.put]
              refine Y_take (i := 14) (n := 3) (.int .i64 er) rfl (by kernel_rfl) (by kernel_rfl) (by kernel_rfl) (by kernel_rfl) (fun _ _ _ h => h) (by rfl) (fun W hW => ?_) HSS.out ?_
              · go_simp
              simp only [Act.put]
              refine Y_one (i := 15) (n := 2) (by kernel_rfl) rfl (fun K hK => ?_)
              rw [if_pos (by rfl)]
              go_simp
              refine hK _ _ (fun _ => HSS.out) ?_
              clear hK K
              refine Y_one (i := 16) (n := 1) (by kernel_rfl) rfl (fun K hK => ?_)
              rw [if_pos (by rfl)]
              go_simp
              refine hK _ _ (fun _ => HSS.out) ?_
              clear hK K
              refine Y_one (i := 17) (n := 0) (by kernel_rfl) rfl (fun K hK => ?_)
              rw [if_pos (by rfl)]
              go_simp
              refine hK _ _ (fun _ => HSS.out) (Y_done (by kernel_rfl) ?_)
              clear hK K HSS
              have HB8 := hd (show Below wr.heap.size wr w8 from ((Below.refl _ _).drew).trans hb8)
              have HI8 := hd (HI7.out.step hRl (OffB.of_below HB8.out (Nat.le_refl _)))
              have HR8 := hd (HR7.out.below HB8.out)
              have HX8 := hd (HX7.out.off (.of_below HB8.out (Nat.le_refl _)))
              have HVQ := hd (own_vp1 ho8)
              have hz8 : wr.heap.size ≤ w8.heap.size := HB8.out.size
              have hz8a : wr.drew.heap.size = wr.heap.size := rfl
              clear hb8 hv8 ho8 x0 x1 x2 x3
              obtain ⟨x0, x1, x2, x3⟩ := HR8.out.cells
              obtain ⟨y0, y1, y2, y3⟩ := HI8.out.own.cells
              obtain ⟨e0, e1, e2, e3⟩ := HI8.out.own.frees
              have h2w : w.heap.size + 2 ≤ wr.heap.size := by have := HI7.out.own.lt; omega
              by_cases he : er = 0
              · have hb : (er != 0) = false := by simp [he]
                have HF := hd (nodeW_leaf (HB2.out.trans (if_neg (by simp [he]))) rfl)
                have hxl2 := hxl he
                have HE := hd he
                clear he hxl
                go_upto_region 16 with fail
                generalize hW9 : World.setCell w8 _ _ = W9
                have HI9 := hd (hW9 ▸ HI8.out.set2 (.slice TA nt tc))
                have HR9 := hd (hW9 ▸ HR8.out.far (q := w.heap.size + 1) (k := 2) (by omega) (.slice TA nt tc))
                have HX9 := hd (hW9 ▸ HX8.out.setG 2 (.slice TA nt tc))
                have HY9 := hd (hW9 ▸ (Off2.refl R (w.heap.size + 1) w8).setG 2 (.slice TA nt tc))
                clear hW9 x0 x1 x2 x3 y0 y1 y2 y3 e0 e1 e2 e3
                obtain ⟨x0, x1, x2, x3⟩ := HR9.out.cells
                obtain ⟨e1, e2, e3⟩ := HR9.out.frees
                go_upto_region 17 with fail
                generalize hW10 : World.setCell W9 _ _ = W10
                have HI10 := hd (hW10 ▸ HI9.out.setR hRl 1 (.int .i64 q))
                have HR10 := hd (hW10 ▸ HR9.out.set q rfl)
                have HX10 := hd (hW10 ▸ HX9.out.setR 1 (.int .i64 q))
                have HY10 := hd (hW10 ▸ HY9.out.setR 1 (.int .i64 q))
                clear hW10 x0 x1 x2 x3 e1 e2 e3
                have hz10 := HY10.out.size
                have hz11 := HX10.out.size
                have HTR := hd (OpnOk.tree (Sp := fun b => w.heap.size + 2 ≤ b ∧ b < W10.heap.size) (Sq := fun b => w.heap.size + 2 ≤ b ∧ b < W10.heap.size) (base := W10.heap.size) (d := 0) (w := W10) (o := ⟨none, 0, 0, TA, nt, tc, .slice none 0 0, [], .mk true ps x []⟩)
                  ⟨HNP.out.1, HNT.out, HNP.out.2.1, hxc, by have := HNT.out; show nt ≤ 40000; omega, HNP.out.2.2,
                    HVPj.out.off2 HX10.out (fun b hb => ⟨hb.2, by have := hb.1; omega, by have := hb.1; omega⟩) (fun b hb => ⟨hb.1, by have := hb.2; omega⟩),
                    HVQ.out.off2 HY10.out (fun b hb => ⟨hb.2, by have := hb.1; omega, by have := hb.1; omega⟩) (fun b hb => ⟨by have := hb.1; omega, by have := hb.2; omega⟩),
                    World.ownsRow_nil _ _ _ _, rfl, fun k m hm => by simp [NT.ks] at hm⟩ (by simp [NT.ks]) (fun _ h => h) (fun b hb => by simp [Value.ownBlock] at hb))
                obtain ⟨y0, y1, y2, y3⟩ := HI10.out.own.cells
                obtain ⟨u0, u1, u2, u3⟩ := HI10.out.out.cells
                obtain ⟨f0, f1, f2, f3⟩ := HI10.out.out.frees
                go_wp2
                refine bodyPost_ret (v := .agg #[.bool true, (.slice none 0 0), .slice TA nt tc, .slice none 0 0]) (by simp [results, Tryd.results29, go_sem, u0, u1, u2, u3]) rfl ?_
                rw [HF.out]
                refine ⟨HI10.out.off.far4 (Nat.le_refl _) _ _ _ _, HR10.out.far4 (by omega) _ _ _ _, _, 1, rfl, HTR.out.keep (fun b hb => ⟨by omega, by simpa using hb.2⟩) fun q hq => ?_⟩
                have := ((Off2.refl R w.heap.size W10).set4 (.bool true) (.slice none 0 0) (.slice TA nt tc) (.slice none 0 0)).block q.block hq.2 (by have := hq.1; omega) (by have := hq.1; omega)
                exact ⟨World.cell?_of_block this, World.frozen?_of_block this⟩
              · have hb : (er != 0) = true := by simpa using he
                obtain ⟨hp0, hp1⟩ := hpr he
                obtain ⟨pn, rfl⟩ : ∃ pn : Nat, at5 = pn := ⟨at5.toNat, by omega⟩
                simp only [Int.toNat_natCast] at hp1
                have HF := hd (nodeW_bad (HB2.out.trans (if_pos he)))
                have HC3 := hd (rfail_ok R s j p er ((j : Int) + (pn : Int)) w8 HR8.out)
                have HE := hd he
                clear he hxl hpr
                go_wp2_with fail
                refine HC3.out.mono ?_
                rintro e w9 ⟨rfl, hr9, ho9⟩
                have HI9 := hd (HI8.out.step hRl ho9)
                have HR9 := hd (show Rf R s j er ((j + (pn : Int).toNat : Nat) : Int) w9 from by simpa using hr9)
                clear hr9 ho9 x0 x1 x2 x3 y0 y1 y2 y3 e0 e1 e2 e3
                obtain ⟨x0, x1, x2, x3⟩ := HR9.out.cells
                obtain ⟨y0, y1, y2, y3⟩ := HI9.out.own.cells
                obtain ⟨e0, e1, e2, e3⟩ := HI9.out.own.frees
                go_upto_region 16 with fail
                generalize hW10 : World.setCell w9 _ _ = W10
                have HI10 := hd (hW10 ▸ HI9.out.set2 (.slice TA nt tc))
                have HR10 := hd (hW10 ▸ HR9.out.far (q := w.heap.size + 1) (k := 2) (by omega) (.slice TA nt tc))
                clear hW10 x0 x1 x2 x3 y0 y1 y2 y3 e0 e1 e2 e3
                obtain ⟨x0, x1, x2, x3⟩ := HR10.out.cells
                obtain ⟨e1, e2, e3⟩ := HR10.out.frees
                go_upto_region 17 with fail
                generalize hW11 : World.setCell W10 _ _ = W11
                have HI11 := hd (hW11 ▸ HI10.out.setR hRl 1 (.int .i64 q))
                have HR11 := hd (hW11 ▸ HR10.out.set q rfl)
                clear hW11 x0 x1 x2 x3 e1 e2 e3
                obtain ⟨y0, y1, y2, y3⟩ := HI11.out.own.cells
                obtain ⟨u0, u1, u2, u3⟩ := HI11.out.out.cells
                obtain ⟨f0, f1, f2, f3⟩ := HI11.out.out.frees
                go_wp2
                refine bodyPost_ret (v := .agg #[.bool true, (.slice none 0 0), .slice TA nt tc, .slice none 0 0]) (by simp [results, Tryd.results29, go_sem, u0, u1, u2, u3]) rfl ?_
                rw [HF.out]
                exact ⟨HI11.out.off.far4 (Nat.le_refl _) _ _ _ _, q, _, _, _, _, _, _, _, _, _, _, rfl, hqr.2, HR11.out.far4 (by omega) _ _ _ _⟩
            · have g : (y != 34) = true := by
                rw [← hy]
                have := byte_ne e34
                simpa using this
              have HF := hd (HE.out.trans (endB_step (f := fun b => b != 34) (atB_some hlt) (by simpa using e34)))
              clear e34 HE HQE HW
              go_wp2
              go_roundw
              case rel => exact ⟨k + 1, by omega, by omega, by simp, hd trivial, HF⟩
              case measure => simp [intOf]; omega
          · have hlt' : decide (k < s.size) = false := decide_eq_false hlt
            have hke : k = s.size := by omega
            have hq : q = s.size := by
              rw [HQE.out, HE.out, endB_stop (fun c h => by rw [atB_none (by omega)] at h; cases h)]
              omega
            have HQI := hd (show min ((k : Int) + 1) (s.size : Int) = (q : Int) by omega)
            clear HE HQE HW hlt hke hq
            obtain ⟨Q, hQ⟩ : ∃ Q, Q = mkB (cutS s.data.toList j q) := ⟨_, rfl⟩
            have hzq : Q.size = q - j := by rw [hQ]; exact mkB_cut_size s j q hqr.2
            have HX := hd ((ex_mk s j q).trans hQ.symm)
            have HC2 := hd (fun (w2 : World) => (show unqL Q.data.toList = (x, at5, er) by rw [hQ, mkB_data]; exact HU.out) ▸ runquote_any Q w2 (by omega))
            have hjq : (j : Int) ≤ (q : Int) := by omega
            have hqs : (q : Int) ≤ (s.size : Int) := by omega
            clear hQ hzq
            go_wp2_with fail
            rw [HQI.out]
            refine Y_start (S := fun W => W.cell? ⟨R, 0, none⟩ = some (.string s) ∧ W.cell? ⟨R, 1, none⟩ = some (.int .i64 j)) (z := fun _ => false) (by kernel_rfl) ?_
            have HSS := hd (show wr.drew.cell? ⟨R, 0, none⟩ = some (.string s) ∧ wr.drew.cell? ⟨R, 1, none⟩ = some (.int .i64 j) from ⟨x0, x1⟩)
            refine Y_take (i := 0) (n := 17) (.pointer (some ⟨R, 0, none⟩)) rfl (by kernel_rfl) (by kernel_rfl) (by kernel_rfl) (by kernel_rfl) (fun _ _ _ h => h) (by rfl) (fun W hW => ?_) HSS.out ?_
            · go_simp
            simp only [Act.put, List.setIfInBounds_toArray]
            refine Y_take (i := 1) (n := 16) (.pointer (some ⟨R, 0, none⟩)) rfl (by kernel_rfl) (by kernel_rfl) (by kernel_rfl) (by kernel_rfl) (fun _ _ _ h => h) (by rfl) (fun W hW => ?_) HSS.out ?_
            · go_simp
            simp only [Act.put]
            refine Y_take (i := 2) (n := 15) (.pointer (some ⟨R, 0, none⟩)) rfl (by kernel_rfl) (by kernel_rfl) (by kernel_rfl) (by kernel_rfl) (fun _ _ _ h => h) (by rfl) (fun W hW => ?_) HSS.out ?_
            · go_simp
            simp only [Act.put]
            refine Y_take (i := 3) (n := 14) (.string s) rfl (by kernel_rfl) (by kernel_rfl) (by kernel_rfl) (by kernel_rfl) (fun _ _ _ h => h) (by rfl) (fun W hW => ?_) HSS.out ?_
            · go_simp
            simp only [Act.put]
            refine Y_take (i := 4) (n := 13) (.pointer (some ⟨R, 0, none⟩)) rfl (by kernel_rfl) (by kernel_rfl) (by kernel_rfl) (by kernel_rfl) (fun _ _ _ h => h) (by rfl) (fun W hW => ?_) HSS.out ?_
            · go_simp
            simp only [Act.put]
            refine Y_take (i := 5) (n := 12) (.pointer (some ⟨R, 0, none⟩)) rfl (by kernel_rfl) (by kernel_rfl) (by kernel_rfl) (by kernel_rfl) (fun _ _ _ h => h) (by rfl) (fun W hW => ?_) HSS.out ?_
            · go_simp
            simp only [Act.put]
            refine Y_take (i := 6) (n := 11) (.pointer (some ⟨R, 1, none⟩)) rfl (by kernel_rfl) (by kernel_rfl) (by kernel_rfl) (by kernel_rfl) (fun _ _ _ h => h) (by rfl) (fun W hW => ?_) HSS.out ?_
            · go_simp
            simp only [Act.put]
            refine Y_take (i := 7) (n := 10) (.int .i64 j) rfl (by kernel_rfl) (by kernel_rfl) (by kernel_rfl) (by kernel_rfl) (fun _ _ _ h => h) (by rfl) (fun W hW => ?_) HSS.out ?_
            · go_simp
            simp only [Act.put]
            refine Y_take (i := 8) (n := 9) (.int .i64 q) rfl (by kernel_rfl) (by kernel_rfl) (by kernel_rfl) (by kernel_rfl) (fun _ _ _ h => h) (by rfl) (fun W hW => ?_) HSS.out ?_
            · go_simp
            simp only [Act.put]
            refine Y_take (i := 9) (n := 8) (.string Q) rfl (by kernel_rfl) (by kernel_rfl) (by kernel_rfl) (by kernel_rfl) (fun _ _ _ h => h) (by rfl) (fun W hW => ?_) HSS.out ?_
            · go_simp
              rw [HX.out]
            simp only [Act.put]
            refine Y_one (i := 10) (n := 7) (by kernel_rfl) rfl (fun K hK => ?_)
            rw [if_pos (by rfl)]
            go_simp
            go_at_call 55
            refine (HC2.out _).mono ?_
            intro e w8 h8
            obtain ⟨v, rfl, hv8, hb8⟩ := h8
            have HSS := hd (show w8.cell? ⟨R, 0, none⟩ = some (.string s) ∧ w8.cell? ⟨R, 1, none⟩ = some (.int .i64 j) from ⟨(hb8.cell (by show R < wr.heap.size; omega)).trans x0, (hb8.cell (by show R < wr.heap.size; omega)).trans x1⟩)
            refine hK _ _ (fun _ => HSS.out) ?_
            clear hK K
            obtain ⟨nt, hnt⟩ : ∃ nt, nt = x.length := ⟨_, rfl⟩
            obtain ⟨TA, tc, rfl, hxc, _, _, ho8⟩ := hv8.open_at nt (by rw [rv_len, hnt])
            have HNT := hd hnt
            clear hnt
            refine Y_take (i := 11) (n := 6) (.tuple #[.slice TA nt tc, .int .i64 at5, .int .i64 er]) rfl (by kernel_rfl) (by kernel_rfl) (by kernel_rfl) (by kernel_rfl) (fun _ _ _ h => h) (by rfl) (fun W hW => ?_) HSS.out ?_
            · go_simp
            simp only [Act.put]
            refine Y_take (i := 12) (n := 5) (.slice TA nt tc) rfl (by kernel_rfl) (by kernel_rfl) (by kernel_rfl) (by kernel_rfl) (fun _ _ _ h => h) (by rfl) (fun W hW => ?_) HSS.out ?_
            · go_simp
            simp only [Act.put]
            refine Y_take (i := 13) (n := 4) (.int .i64 at5) rfl (by kernel_rfl) (by kernel_rfl) (by kernel_rfl) (by kernel_rfl) (fun _ _ _ h => h) (by rfl) (fun W hW => ?_) HSS.out ?_
            · go_simp
            simp only [Act.put]
            refine Y_take (i := 14) (n := 3) (.int .i64 er) rfl (by kernel_rfl) (by kernel_rfl) (by kernel_rfl) (by kernel_rfl) (fun _ _ _ h => h) (by rfl) (fun W hW => ?_) HSS.out ?_
            · go_simp
            simp only [Act.put]
            refine Y_one (i := 15) (n := 2) (by kernel_rfl) rfl (fun K hK => ?_)
            rw [if_pos (by rfl)]
            go_simp
            refine hK _ _ (fun _ => HSS.out) ?_
            clear hK K
            refine Y_one (i := 16) (n := 1) (by kernel_rfl) rfl (fun K hK => ?_)
            rw [if_pos (by rfl)]
            go_simp
            refine hK _ _ (fun _ => HSS.out) ?_
            clear hK K
            refine Y_one (i := 17) (n := 0) (by kernel_rfl) rfl (fun K hK => ?_)
            rw [if_pos (by rfl)]
            go_simp
            refine hK _ _ (fun _ => HSS.out) (Y_done (by kernel_rfl) ?_)
            clear hK K HSS
            have HB8 := hd (show Below wr.heap.size wr w8 from ((Below.refl _ _).drew).trans hb8)
            have HI8 := hd (HI7.out.step hRl (OffB.of_below HB8.out (Nat.le_refl _)))
            have HR8 := hd (HR7.out.below HB8.out)
            have HX8 := hd (HX7.out.off (.of_below HB8.out (Nat.le_refl _)))
            have HVQ := hd (own_vp1 ho8)
            have hz8 : wr.heap.size ≤ w8.heap.size := HB8.out.size
            have hz8a : wr.drew.heap.size = wr.heap.size := rfl
            clear hb8 hv8 ho8 x0 x1 x2 x3
            obtain ⟨x0, x1, x2, x3⟩ := HR8.out.cells
            obtain ⟨y0, y1, y2, y3⟩ := HI8.out.own.cells
            obtain ⟨e0, e1, e2, e3⟩ := HI8.out.own.frees
            have h2w : w.heap.size + 2 ≤ wr.heap.size := by have := HI7.out.own.lt; omega
            by_cases he : er = 0
            · have hb : (er != 0) = false := by simp [he]
              have HF := hd (nodeW_leaf (HB2.out.trans (if_neg (by simp [he]))) rfl)
              have hxl2 := hxl he
              have HE := hd he
              clear he hxl
              go_upto_region 16 with fail
              generalize hW9 : World.setCell w8 _ _ = W9
              have HI9 := hd (hW9 ▸ HI8.out.set2 (.slice TA nt tc))
              have HR9 := hd (hW9 ▸ HR8.out.far (q := w.heap.size + 1) (k := 2) (by omega) (.slice TA nt tc))
              have HX9 := hd (hW9 ▸ HX8.out.setG 2 (.slice TA nt tc))
              have HY9 := hd (hW9 ▸ (Off2.refl R (w.heap.size + 1) w8).setG 2 (.slice TA nt tc))
              clear hW9 x0 x1 x2 x3 y0 y1 y2 y3 e0 e1 e2 e3
              obtain ⟨x0, x1, x2, x3⟩ := HR9.out.cells
              obtain ⟨e1, e2, e3⟩ := HR9.out.frees
              go_upto_region 17 with fail
              generalize hW10 : World.setCell W9 _ _ = W10
              have HI10 := hd (hW10 ▸ HI9.out.setR hRl 1 (.int .i64 q))
              have HR10 := hd (hW10 ▸ HR9.out.set q rfl)
              have HX10 := hd (hW10 ▸ HX9.out.setR 1 (.int .i64 q))
              have HY10 := hd (hW10 ▸ HY9.out.setR 1 (.int .i64 q))
              clear hW10 x0 x1 x2 x3 e1 e2 e3
              have hz10 := HY10.out.size
              have hz11 := HX10.out.size
              have HTR := hd (OpnOk.tree (Sp := fun b => w.heap.size + 2 ≤ b ∧ b < W10.heap.size) (Sq := fun b => w.heap.size + 2 ≤ b ∧ b < W10.heap.size) (base := W10.heap.size) (d := 0) (w := W10) (o := ⟨none, 0, 0, TA, nt, tc, .slice none 0 0, [], .mk true ps x []⟩)
                ⟨HNP.out.1, HNT.out, HNP.out.2.1, hxc, by have := HNT.out; show nt ≤ 40000; omega, HNP.out.2.2,
                  HVPj.out.off2 HX10.out (fun b hb => ⟨hb.2, by have := hb.1; omega, by have := hb.1; omega⟩) (fun b hb => ⟨hb.1, by have := hb.2; omega⟩),
                  HVQ.out.off2 HY10.out (fun b hb => ⟨hb.2, by have := hb.1; omega, by have := hb.1; omega⟩) (fun b hb => ⟨by have := hb.1; omega, by have := hb.2; omega⟩),
                  World.ownsRow_nil _ _ _ _, rfl, fun k m hm => by simp [NT.ks] at hm⟩ (by simp [NT.ks]) (fun _ h => h) (fun b hb => by simp [Value.ownBlock] at hb))
              obtain ⟨y0, y1, y2, y3⟩ := HI10.out.own.cells
              obtain ⟨u0, u1, u2, u3⟩ := HI10.out.out.cells
              obtain ⟨f0, f1, f2, f3⟩ := HI10.out.out.frees
              go_wp2
              refine bodyPost_ret (v := .agg #[.bool true, (.slice none 0 0), .slice TA nt tc, .slice none 0 0]) (by simp [results, Tryd.results29, go_sem, u0, u1, u2, u3]) rfl ?_
              rw [HF.out]
              refine ⟨HI10.out.off.far4 (Nat.le_refl _) _ _ _ _, HR10.out.far4 (by omega) _ _ _ _, _, 1, rfl, HTR.out.keep (fun b hb => ⟨by omega, by simpa using hb.2⟩) fun q hq => ?_⟩
              have := ((Off2.refl R w.heap.size W10).set4 (.bool true) (.slice none 0 0) (.slice TA nt tc) (.slice none 0 0)).block q.block hq.2 (by have := hq.1; omega) (by have := hq.1; omega)
              exact ⟨World.cell?_of_block this, World.frozen?_of_block this⟩
            · have hb : (er != 0) = true := by simpa using he
              obtain ⟨hp0, hp1⟩ := hpr he
              obtain ⟨pn, rfl⟩ : ∃ pn : Nat, at5 = pn := ⟨at5.toNat, by omega⟩
              simp only [Int.toNat_natCast] at hp1
              have HF := hd (nodeW_bad (HB2.out.trans (if_pos he)))
              have HC3 := hd (rfail_ok R s j p er ((j : Int) + (pn : Int)) w8 HR8.out)
              have HE := hd he
              clear he hxl hpr
              go_wp2_with fail
              refine HC3.out.mono ?_
              rintro e w9 ⟨rfl, hr9, ho9⟩
              have HI9 := hd (HI8.out.step hRl ho9)
              have HR9 := hd (show Rf R s j er ((j + (pn : Int).toNat : Nat) : Int) w9 from by simpa using hr9)
              clear hr9 ho9 x0 x1 x2 x3 y0 y1 y2 y3 e0 e1 e2 e3
              obtain ⟨x0, x1, x2, x3⟩ := HR9.out.cells
              obtain ⟨y0, y1, y2, y3⟩ := HI9.out.own.cells
              obtain ⟨e0, e1, e2, e3⟩ := HI9.out.own.frees
              go_upto_region 16 with fail
              generalize hW10 : World.setCell w9 _ _ = W10
              have HI10 := hd (hW10 ▸ HI9.out.set2 (.slice TA nt tc))
              have HR10 := hd (hW10 ▸ HR9.out.far (q := w.heap.size + 1) (k := 2) (by omega) (.slice TA nt tc))
              clear hW10 x0 x1 x2 x3 y0 y1 y2 y3 e0 e1 e2 e3
              obtain ⟨x0, x1, x2, x3⟩ := HR10.out.cells
              obtain ⟨e1, e2, e3⟩ := HR10.out.frees
              go_upto_region 17 with fail
              generalize hW11 : World.setCell W10 _ _ = W11
              have HI11 := hd (hW11 ▸ HI10.out.setR hRl 1 (.int .i64 q))
              have HR11 := hd (hW11 ▸ HR10.out.set q rfl)
              clear hW11 x0 x1 x2 x3 e1 e2 e3
              obtain ⟨y0, y1, y2, y3⟩ := HI11.out.own.cells
              obtain ⟨u0, u1, u2, u3⟩ := HI11.out.out.cells
              obtain ⟨f0, f1, f2, f3⟩ := HI11.out.out.frees
              go_wp2
              refine bodyPost_ret (v := .agg #[.bool true, (.slice none 0 0), .slice TA nt tc, .slice none 0 0]) (by simp [results, Tryd.results29, go_sem, u0, u1, u2, u3]) rfl ?_
              rw [HF.out]
              exact ⟨HI11.out.off.far4 (Nat.le_refl _) _ _ _ _, q, _, _, _, _, _, _, _, _, _, _, rfl, hqr.2, HR11.out.far4 (by omega) _ _ _ _⟩
      · have g34 : (z6 == 34) = false := by have := h34z; simpa [h34] using this
        clear h34z hz6
        by_cases h91 : atB s j = some 91
        · have HT := hd (rftake_yes R s j 91 91 rfl 0 p (Wj.drewN kd) HR6.out (by omega) h91)
          have hjl := atB_lt h91
          have HF := hd (HB.out.trans (show bodyP s.data.toList ps j = .ok (.mk false ps [] []) (j + 1) by unfold bodyP; rw [if_pos (show s.data.toList[j]? = some 91 from h91)]))
          clear h91 h34
          go_wp2_with fail
          refine HT.out.mono ?_
          rintro e w7 ⟨rfl, hr7, ho7⟩
          have HK : Hid (KidRel R s i p w w7) := hd (.inl ⟨fun b => w.heap.size + 2 ≤ b ∧ b < Wj.heap.size, 0, ⟨none, 0, 0, none, 0, 0, .slice none 0 0, [], .mk false ps [] []⟩, j + 1, HI6.out.step hRl ho7,
            ⟨HNP.out.1, rfl, HNP.out.2.1, Nat.le_refl _, Nat.zero_le _, HNP.out.2.2, HVPj.out.keep (fun _ h => h) (fun q hq => by
              have hq : w.heap.size + 2 ≤ q.block ∧ q.block < Wj.heap.size := hq
              have := ho7.block q.block hq.2 (by omega)
              exact ⟨World.cell?_of_block this, World.frozen?_of_block this⟩), fun k u hu => by simp [rv, NT.tx] at hu, World.ownsRow_nil _ _ _ _, rfl, fun k m hm => by simp [NT.ks] at hm⟩,
            fun b hb => ⟨hb.1, by have := ho7.size; have : (Wj.drewN kd).heap.size = Wj.heap.size := rfl; omega, by simp [Value.ownBlock]⟩, hr7, by omega, by omega, Nat.zero_le _, nodeW_elem (by rw [data_size]; exact hi) HF.out rfl⟩)
          clear hr7 ho7 HR6 HI6 HT
          go_wp2_with fail
          go_loopw [] (fun wr => Hid (KidRel R s i p w wr)) (fun wr => if rferr R wr = 0 then s.size + 2 - rfpos R wr else 0)
          case atStart => exact HK
          case round =>
            clear HK
            rcases hrel.out with ⟨Sp, d, o, k, hIn, hok, hsp, hr, hik, hks, hlen, hN⟩ | ⟨k, er, q, lf, PA, np, pc, TA, nt, tc, KA, nk, kc, hne, hIn, hr, hks, hN⟩
            · obtain ⟨lf, hlf⟩ : ∃ lf, lf = o.n.lf := ⟨_, rfl⟩
              obtain ⟨PA, o1⟩ : ∃ x, x = o.PA := ⟨_, rfl⟩
              obtain ⟨np, o2⟩ : ∃ x, x = o.np := ⟨_, rfl⟩
              obtain ⟨pc, o3⟩ : ∃ x, x = o.pc := ⟨_, rfl⟩
              obtain ⟨TA, o4⟩ : ∃ x, x = o.TA := ⟨_, rfl⟩
              obtain ⟨nt, o5⟩ : ∃ x, x = o.nt := ⟨_, rfl⟩
              obtain ⟨tc, o6⟩ : ∃ x, x = o.tc := ⟨_, rfl⟩
              obtain ⟨nk, o8⟩ : ∃ x, x = o.n.ks.length := ⟨_, rfl⟩
              obtain ⟨KA, kc, o7⟩ : ∃ KA kc, o.vK = .slice KA nk kc := by
                obtain ⟨KA, kc, e, _⟩ := rowFree hok.row
                exact ⟨KA, kc, by rw [o8]; exact e⟩
              have hov : o.val = .agg #[.bool lf, .slice PA np pc, .slice TA nt tc, .slice KA nk kc] := Opn.val_of (by unfold Opn.row4; rw [hlf, o1, o2, o3, o4, o5, o6, o7])
              rw [← hlf, ← o1, ← o2, ← o3, ← o4, ← o5, ← o6, o7] at hIn
              rw [← o8] at hlen
              have HIn := hd hIn
              have HOK := hd hok
              have HSP := hd hsp
              have HR := hd hr
              have HN := hd hN
              have HOV := hd hov
              have HO7 := hd o7
              have HO8 := hd o8
              have HOP := hd (⟨hlf, o1, o2, o3, o4, o5, o6⟩ : lf = o.n.lf ∧ PA = o.PA ∧ np = o.np ∧ pc = o.pc ∧ TA = o.TA ∧ nt = o.nt ∧ tc = o.tc)
              have hpos := hr.pos_eq
              have hzr := hIn.off.size
              have hgl := hIn.own.lt
              obtain ⟨z9, hz9⟩ : ∃ z, nextZ s k = z := ⟨_, rfl⟩
              have h93z := nextZ_is (s := s) (i := k) (c := 93) (by decide)
              rw [hz9] at h93z
              have HN9 := hd (rfnext_any R s k 0 p wr HR.out z9 hz9 hks)
              obtain ⟨x0, x1, x2, x3⟩ := HR.out.cells
              clear hIn hok hsp hr hN hlf o1 o2 o3 o4 o5 o6 o7 o8 hov hz9 hrel
              go_wp2_with fail
              refine HN9.out.mono ?_
              rintro e w10 ⟨rfl, kd, rfl⟩
              have HI10 := hd (HIn.out.drewN kd)
              have HR10 := hd (HR.out.drewN kd)
              by_cases h93 : atB s k = some 93
              · have g93 : (z9 != 93) = false := by
                  have h1 : (z9 == 93) = true := by have := h93z; simpa [h93] using this
                  simpa using h1
                have hkl := atB_lt h93
                have HF := hd (HN.out.trans (kidsW_end (show s.data.toList[k]? = some 93 from h93)))
                have HT := hd (rftake_yes R s k 93 93 rfl 0 p (wr.drewN kd) HR10.out (by omega) h93)
                clear h93z h93 x0 x1 x2 x3
                go_wp2_with fail
                refine HT.out.mono ?_
                rintro e w11 ⟨rfl, hr11, ho11⟩
                have HI11 := hd (HI10.out.step hRl ho11)
                have HR11 := hd hr11
                have HOK11 := hd (HOK.out.keep (w' := w11) (fun _ h => h) fun b hb => by
                  have hbl : w.heap.size + 2 ≤ b ∧ b < wr.heap.size := by
                    rcases hb with hb | hb
                    · exact ⟨(HSP.out b hb).1, (HSP.out b hb).2.1⟩
                    · exact HOK.out.row.lt b hb
                  exact ho11.block b hbl.2 (by omega))
                have hz11 : wr.heap.size ≤ w11.heap.size := ho11.size
                have HTR := hd (HOK11.out.tree (Sq := fun b => w.heap.size + 2 ≤ b ∧ b < w11.heap.size) (by rw [← HO8.out]; omega) (fun b hb => ⟨(HSP.out b hb).1, by have := (HSP.out b hb).2.1; omega⟩) (fun b hb => by have := HOK11.out.row.lt b hb; exact this))
                rw [HOV.out] at HTR
                have HTR := hd HTR.out
                clear hr11 ho11
                obtain ⟨y0, y1, y2, y3⟩ := HI11.out.own.cells
                obtain ⟨u0, u1, u2, u3⟩ := HI11.out.out.cells
                obtain ⟨f0, f1, f2, f3⟩ := HI11.out.out.frees
                go_wp2
                refine bodyPost_ret (v := .agg #[.bool lf, .slice PA np pc, .slice TA nt tc, .slice KA nk kc]) (by simp [results, Tryd.results29, go_sem, u0, u1, u2, u3]) rfl ?_
                rw [HF.out]
                refine ⟨HI11.out.off.far4 (Nat.le_refl _) _ _ _ _, HR11.out.far4 (by omega) _ _ _ _, _, _, rfl, HTR.out.keep (fun b hb => ⟨by omega, by simpa using hb.2⟩) fun q hq => ?_⟩
                have := ((Off2.refl R w.heap.size w11).set4 (.bool lf) (.slice PA np pc) (.slice TA nt tc) (.slice KA nk kc)).block q.block hq.2 (by have := hq.1; omega) (by have := hq.1; omega)
                exact ⟨World.cell?_of_block this, World.frozen?_of_block this⟩
              · have g93 : (z9 != 93) = true := by
                  have h1 : (z9 == 93) = false := by have := h93z; simpa [h93] using this
                  simpa using h1
                have HNW := hd h93
                clear h93z h93 x0 x1 x2 x3
                go_upto_region 20 with fail
                refine Y_start (S := fun W => W.cell? ⟨w.heap.size + 1, 3, none⟩ = some (.slice KA nk kc)) (z := fun k => decide (6 ≤ k)) (by kernel_rfl) ?_
                obtain ⟨w1, hw1⟩ : ∃ w1, w1 = (wr.drewN kd).drew := ⟨_, rfl⟩
                rw [← hw1]
                have HD1 := hd (show OffB R wr.heap.size wr w1 from hw1 ▸ ((OffB.refl R wr.heap.size wr).drewN kd).trans (.of_below ((Below.refl _ _).drew) (Nat.le_refl _)))
                have hd1 : w1.heap = wr.heap := by rw [hw1]; rfl
                clear hw1 HI10 HR10
                have HI1 := hd (HIn.out.step hRl HD1.out)
                have HR1 := hd (show Rf R s k 0 p w1 from ⟨by rw [hd1]; exact HR.out.blk⟩)
                have hz1 : w1.heap.size = wr.heap.size := by rw [hd1]
                have hz1a : wr.heap.size ≤ w1.heap.size := by omega
                have hz1b : w1.heap.size ≤ wr.heap.size := by omega
                clear hd1 hz1
                have HSS := hd (HI1.out.own.cells.2.2.2)
                have HIH := hd (ih k w1 (by omega) hks HR1.out)
                refine Y_take (i := 0) (n := 7) (.pointer (some ⟨w.heap.size + 1, 3, none⟩)) rfl (by kernel_rfl) (by kernel_rfl) (by kernel_rfl) (by kernel_rfl) (fun _ _ _ h => h) (by rfl) (fun W hW => ?_) HSS.out ?_
                · go_simp
                simp only [Act.put, List.setIfInBounds_toArray]
                refine Y_take (i := 1) (n := 6) (.slice KA nk kc) rfl (by kernel_rfl) (by kernel_rfl) (by kernel_rfl) (by kernel_rfl) (fun _ _ _ h => h) (by rfl) (fun W hW => ?_) HSS.out ?_
                · go_simp
                simp only [Act.put]
                refine Y_take (i := 2) (n := 5) (.pointer (some ⟨R, 0, none⟩)) rfl (by kernel_rfl) (by kernel_rfl) (by kernel_rfl) (by kernel_rfl) (fun _ _ _ h => h) (by rfl) (fun W hW => ?_) HSS.out ?_
                · go_simp
                simp only [Act.put]
                refine Y_one (i := 3) (n := 4) (by kernel_rfl) rfl (fun K hK => ?_)
                rw [if_pos (by rfl)]
                go_simp
                go_at_call 29
                refine HIH.out.mono ?_
                intro e w2 h2
                have hes := HR.out.err_eq
                cases hn : nodeW s.data.toList k with
                | bad q er =>
                  rw [hn] at h2
                  obtain ⟨ho2, j2, lf5, PA5, np5, pc5, TA5, nt5, tc5, KA5, nk5, kc5, rfl, hj2, hr2⟩ := h2
                  have hne := (node_bad (by rw [data_size]; exact hks) hn).2
                  have HF := hd (HN.out.trans (kidsW_bad (show s.data.toList[k]? ≠ some 93 from HNW.out) hn))
                  clear hn
                  have hz2 := ho2.size
                  have HI2 := hd (HI1.out.step hRl ho2)
                  have HR2 := hd hr2
                  have HO2 := hd ho2
                  have HOR := hd (show w2.ownsRow (w.heap.size + 2) 26 4 (.slice KA nk kc) nk (flatK o.us) from by
                    have h1 := HOK.out.row
                    rw [HO7.out, ← HO8.out] at h1
                    exact row_kept h1 fun b hb => (HO2.out.block b (by have := h1.lt b hb; omega) (by have := h1.lt b hb; omega)).trans (HD1.out.block b (by have := h1.lt b hb; omega) (by have := h1.lt b hb; omega)))
                  refine hK _ _ (fun _ => HI2.out.own.cells.2.2.2) ?_
                  clear hK K hr2 ho2
                  have one : ∀ u ∈ [Value.bool lf5, .slice PA5 np5 pc5, .slice TA5 nt5 tc5, .slice KA5 nk5 kc5], u.oneCell' = true := by intro u hu; simp at hu; rcases hu with rfl | rfl | rfl | rfl <;> rfl
                  refine Y_one (i := 4) (n := 3) (by kernel_rfl) rfl (fun K hK => ?_)
                  rw [if_pos (by rfl)]
                  go_simp
                  refine hK _ _ (fun _ => (World.cell?_of_block (Below.heap_alloc _ _ _ HI2.out.own.lt)).trans HI2.out.own.cells.2.2.2) ?_
                  clear hK K
                  refine Y_one (i := 5) (n := 2) (by kernel_rfl) rfl (fun K hK => ?_)
                  refine step_app1 nodeG w2 rfl (.tmp 102) (.tmp 105) rfl (w.heap.size + 2) (.slice KA nk kc) nk (flatK o.us) [.bool lf5, .slice PA5 np5 pc5, .slice TA5 nt5 tc5, .slice KA5 nk5 kc5] rfl HOR.out rfl rfl one (by omega) (by decide) (by have := HI2.out.own.lt; omega) ?_
                  intro A6 c6 w3 hown3 hgrow3 hat3
                  have hB3 : Below (w.heap.size + 2) w2 w3 := ⟨hgrow3.os, hgrow3.tape, hgrow3.output, by have := hgrow3.size; simp at this; omega, fun b hb => (hgrow3.block b (by have := HI2.out.own.lt; simp; omega) (fun e => by have := (HOR.out.lt b e.symm).1; omega)).trans (Below.heap_alloc _ _ _ (by have := HI2.out.own.lt; omega))⟩
                  have HI3 := hd (HI2.out.low hB3)
                  refine hK _ _ (fun _ => HI3.out.own.cells.2.2.2) ?_
                  clear hK K one
                  refine Y_pure (i := 6) (n := 1) (.pointer (some ⟨w.heap.size + 1, 3, none⟩)) rfl rfl (by kernel_rfl) (by kernel_rfl) (by kernel_rfl) (fun _ _ _ h => h) (by rfl) (fun W => ?_) ?_
                  · go_simp
                  simp only [Act.put]
                  have c3 := HI3.out.own.cells.2.2.2
                  have f3 := HI3.out.own.free 3
                  refine Y_one (i := 7) (n := 0) (by kernel_rfl) rfl (fun K hK => ?_)
                  rw [if_pos (by rfl)]
                  go_simp
                  refine hK _ _ (fun h => absurd h (by decide)) (Y_done (by kernel_rfl) ?_)
                  clear hK K c3 f3
                  generalize hW4 : World.setCell w3 _ _ = W4
                  have HI4 := hd (hW4 ▸ HI3.out.set3 (.slice A6 (nk + 1) c6))
                  have HR4 := hd (hW4 ▸ (show Rf R s _ _ _ w3 from ⟨(hB3.block R (by omega)).trans HR2.out.blk⟩).far (q := w.heap.size + 1) (k := 3) (by omega) (.slice A6 (nk + 1) c6))
                  have HB4 := hd (fun (b : Nat) (h0 : w.heap.size + 2 ≤ b) (h1 : b < w2.heap.size) (h2 : (Value.slice KA nk kc).ownBlock ≠ some b) => (show W4.heap[b]? = w2.heap[b]? by
                    rw [← hW4, Below.heap_setCell _ _ _ _ (show b ≠ w.heap.size + 1 by omega), hgrow3.block b (by simp; omega) (fun e => h2 e.symm), Below.heap_alloc _ _ _ h1]))
                  have HOW4 := hd (hW4 ▸ ownsRow_setCell_below hown3 (a := ⟨w.heap.size + 1, 3, none⟩) (by show w.heap.size + 1 < _; omega) (.slice A6 (nk + 1) c6))
                  have HAT := hd hat3
                  have hz4 : w2.heap.size + 1 ≤ W4.heap.size := by rw [← hW4]; have := hgrow3.size; simp at this ⊢; omega
                  clear hW4 hown3 hgrow3 hat3 hB3 HI3
                  have HX := hd (show KidRel R s i p w W4 from .inr ⟨j2, er, q, _, _, _, _, _, _, _, _, _, _, hne, HI4.out, HR4.out, hj2, HF.out⟩)
                  have hm4 := HR4.out.err_eq
                  go_wp2
                  go_roundw
                  case rel => exact HX
                  case measure => rw [hm4, hes, hpos, if_neg hne, if_pos rfl]; omega
                | ok n5 j5 =>
                  rw [hn] at h2
                  obtain ⟨ho2, hr2, u5, d5, rfl, ht5⟩ := h2
                  have hj5 := node_ok (by rw [data_size]; exact hks) hn
                  rw [data_size] at hj5
                  obtain ⟨hj5a, hj5b⟩ := hj5
                  obtain ⟨lf5, PA5, np5, pc5, TA5, nt5, tc5, KA5, nk5, kc5, rfl⟩ : ∃ lf PA np pc TA nt tc KA nk kc, u5 = .agg #[.bool lf, .slice PA np pc, .slice TA nt tc, .slice KA nk kc] := by
                    cases d5 with
                    | zero => exact ht5.elim
                    | succ d => obtain ⟨PA, pc, TA, tc, KA, kc, e, _⟩ := ht5; exact ⟨_, _, _, _, _, _, _, _, _, _, e⟩
                  have HF := hd (HN.out.trans (kidsW_step (by rw [data_size]; exact hks) (show s.data.toList[k]? ≠ some 93 from HNW.out) hn))
                  have HT5 := hd ht5
                  clear hn ht5
                  have hz2 := ho2.size
                  have HI2 := hd (HI1.out.step hRl ho2)
                  have HR2 := hd hr2
                  have HO2 := hd ho2
                  have HOR := hd (show w2.ownsRow (w.heap.size + 2) 26 4 (.slice KA nk kc) nk (flatK o.us) from by
                    have h1 := HOK.out.row
                    rw [HO7.out, ← HO8.out] at h1
                    exact row_kept h1 fun b hb => (HO2.out.block b (by have := h1.lt b hb; omega) (by have := h1.lt b hb; omega)).trans (HD1.out.block b (by have := h1.lt b hb; omega) (by have := h1.lt b hb; omega)))
                  refine hK _ _ (fun _ => HI2.out.own.cells.2.2.2) ?_
                  clear hK K hr2 ho2
                  have one : ∀ u ∈ [Value.bool lf5, .slice PA5 np5 pc5, .slice TA5 nt5 tc5, .slice KA5 nk5 kc5], u.oneCell' = true := by intro u hu; simp at hu; rcases hu with rfl | rfl | rfl | rfl <;> rfl
                  refine Y_one (i := 4) (n := 3) (by kernel_rfl) rfl (fun K hK => ?_)
                  rw [if_pos (by rfl)]
                  go_simp
                  refine hK _ _ (fun _ => (World.cell?_of_block (Below.heap_alloc _ _ _ HI2.out.own.lt)).trans HI2.out.own.cells.2.2.2) ?_
                  clear hK K
                  refine Y_one (i := 5) (n := 2) (by kernel_rfl) rfl (fun K hK => ?_)
                  refine step_app1 nodeG w2 rfl (.tmp 102) (.tmp 105) rfl (w.heap.size + 2) (.slice KA nk kc) nk (flatK o.us) [.bool lf5, .slice PA5 np5 pc5, .slice TA5 nt5 tc5, .slice KA5 nk5 kc5] rfl HOR.out rfl rfl one (by omega) (by decide) (by have := HI2.out.own.lt; omega) ?_
                  intro A6 c6 w3 hown3 hgrow3 hat3
                  have hB3 : Below (w.heap.size + 2) w2 w3 := ⟨hgrow3.os, hgrow3.tape, hgrow3.output, by have := hgrow3.size; simp at this; omega, fun b hb => (hgrow3.block b (by have := HI2.out.own.lt; simp; omega) (fun e => by have := (HOR.out.lt b e.symm).1; omega)).trans (Below.heap_alloc _ _ _ (by have := HI2.out.own.lt; omega))⟩
                  have HI3 := hd (HI2.out.low hB3)
                  refine hK _ _ (fun _ => HI3.out.own.cells.2.2.2) ?_
                  clear hK K one
                  refine Y_pure (i := 6) (n := 1) (.pointer (some ⟨w.heap.size + 1, 3, none⟩)) rfl rfl (by kernel_rfl) (by kernel_rfl) (by kernel_rfl) (fun _ _ _ h => h) (by rfl) (fun W => ?_) ?_
                  · go_simp
                  simp only [Act.put]
                  have c3 := HI3.out.own.cells.2.2.2
                  have f3 := HI3.out.own.free 3
                  refine Y_one (i := 7) (n := 0) (by kernel_rfl) rfl (fun K hK => ?_)
                  rw [if_pos (by rfl)]
                  go_simp
                  refine hK _ _ (fun h => absurd h (by decide)) (Y_done (by kernel_rfl) ?_)
                  clear hK K c3 f3
                  generalize hW4 : World.setCell w3 _ _ = W4
                  have HI4 := hd (hW4 ▸ HI3.out.set3 (.slice A6 (nk + 1) c6))
                  have HR4 := hd (hW4 ▸ (show Rf R s _ _ _ w3 from ⟨(hB3.block R (by omega)).trans HR2.out.blk⟩).far (q := w.heap.size + 1) (k := 3) (by omega) (.slice A6 (nk + 1) c6))
                  have HB4 := hd (fun (b : Nat) (h0 : w.heap.size + 2 ≤ b) (h1 : b < w2.heap.size) (h2 : (Value.slice KA nk kc).ownBlock ≠ some b) => (show W4.heap[b]? = w2.heap[b]? by
                    rw [← hW4, Below.heap_setCell _ _ _ _ (show b ≠ w.heap.size + 1 by omega), hgrow3.block b (by simp; omega) (fun e => h2 e.symm), Below.heap_alloc _ _ _ h1]))
                  have HOW4 := hd (hW4 ▸ ownsRow_setCell_below hown3 (a := ⟨w.heap.size + 1, 3, none⟩) (by show w.heap.size + 1 < _; omega) (.slice A6 (nk + 1) c6))
                  have HAT := hd hat3
                  have hz4 : w2.heap.size + 1 ≤ W4.heap.size := by rw [← hW4]; have := hgrow3.size; simp at this ⊢; omega
                  clear hW4 hown3 hgrow3 hat3 hB3 HI3
                  have HOM := hd (HOK.out.more (w1 := w2) (w' := W4) (vK' := .slice A6 (nk + 1) c6) (lo := w1.heap.size) HSP.out (fun b h1 hb => (HO2.out.block b (by omega) (by have := (HSP.out b hb).1; omega)).trans (HD1.out.block b h1 (by have := (HSP.out b hb).1; omega))) HT5.out hz1a (by omega) (by omega) (fun b h0 h1 h2 => HB4.out b h0 h1 (by rw [← HO7.out]; exact h2)) (by rw [← HO8.out, flatK_append]; exact HOW4.out))
                  have HX := hd (show KidRel R s i p w W4 from .inl ⟨_, _, o.with1 (.slice A6 (nk + 1) c6) (.agg #[.bool lf5, .slice PA5 np5 pc5, .slice TA5 nt5 tc5, .slice KA5 nk5 kc5]) n5, j5, by
                      have h1 := HI4.out
                      obtain ⟨q1, q2, q3, q4, q5, q6, q7⟩ := HOP.out
                      rw [q1, q2, q3, q4, q5, q6, q7] at h1
                      exact h1, HOM.out, fun b hb => by
                      have hown : ∀ g, (Value.slice KA nk kc).ownBlock = some g → g < wr.heap.size := fun g hg => (HOK.out.row.lt g (by rw [HO7.out]; exact hg)).2
                      rcases hb with hb | hb
                      · have h3 := HSP.out b hb
                        refine ⟨h3.1, by omega, ?_⟩
                        show (Value.slice A6 (nk + 1) c6).ownBlock ≠ some b
                        rcases HAT.out with e | ⟨g, e, hg⟩
                        · rw [e, ← HO7.out]; exact h3.2.2
                        · rw [e]; intro e2; injection e2 with e2; omega
                      · refine ⟨by omega, by omega, ?_⟩
                        show (Value.slice A6 (nk + 1) c6).ownBlock ≠ some b
                        rcases HAT.out with e | ⟨g, e, hg⟩
                        · rw [e]; intro e2; have := hown b e2; omega
                        · rw [e]; intro e2; injection e2 with e2; omega, HR4.out, by omega, by omega, by
                      show (addK o.n n5).ks.length ≤ j5
                      have : (addK o.n n5).ks.length = o.n.ks.length + 1 := by simp [addK, NT.ks]
                      rw [this, ← HO8.out]; omega, HF.out⟩)
                  have hm4 := HR4.out.err_eq
                  have hm5 := HR4.out.pos_eq
                  go_wp2
                  go_roundw
                  case rel => exact HX
                  case measure => rw [hm4, hm5, hes, hpos, if_pos rfl, if_pos rfl]; omega
            · have hb : (er == 0) = false := by simpa using hne
              have HT := hd (rftake_bad R s k 93 93 rfl er (q : Int) wr hr hne hks (by omega))
              have HIn := hd hIn
              have HN := hd hN
              obtain ⟨x0, x1, x2, x3⟩ := hr.cells
              clear hIn hr hN hrel hne
              go_wp2_with fail
              refine HT.out.mono ?_
              rintro e w10 ⟨rfl, ho10, j10, hj1, hj2, hr10⟩
              have HI10 := hd (HIn.out.step hRl ho10)
              have HR10 := hd hr10
              clear hr10 ho10 x0 x1 x2 x3
              obtain ⟨y0, y1, y2, y3⟩ := HI10.out.own.cells
              obtain ⟨u0, u1, u2, u3⟩ := HI10.out.out.cells
              obtain ⟨f0, f1, f2, f3⟩ := HI10.out.out.frees
              go_wp2
              refine bodyPost_ret (v := .agg #[.bool lf, .slice PA np pc, .slice TA nt tc, .slice KA nk kc]) (by simp [results, Tryd.results29, go_sem, u0, u1, u2, u3]) rfl ?_
              rw [HN.out]
              exact ⟨HI10.out.off.far4 (Nat.le_refl _) _ _ _ _, j10, _, _, _, _, _, _, _, _, _, _, rfl, hj2, HR10.out.far4 (by omega) _ _ _ _⟩
        · have HT := hd (rftake_no R s j 91 91 rfl p (Wj.drewN kd) HR6.out hjs h91)
          have HF := hd (nodeW_bad (HB.out.trans (show bodyP s.data.toList ps j = .bad j 11 by unfold bodyP; rw [if_neg (show ¬ s.data.toList[j]? = some 91 from h91), if_neg (show ¬ s.data.toList[j]? = some 34 from h34)])))
          clear h91 h34
          go_wp2_with fail
          refine HT.out.mono ?_
          rintro e w7 ⟨rfl, hr7, ho7⟩
          have HK : Hid (KidRel R s i p w w7) := hd (.inr ⟨j, 11, j, _, _, _, _, _, _, _, _, _, _, by decide, HI6.out.step hRl ho7, hr7, hjs, HF.out⟩)
          clear hr7 ho7 HR6 HI6 HT
          go_wp2_with fail
          go_loopw [] (fun wr => Hid (KidRel R s i p w wr)) (fun wr => if rferr R wr = 0 then s.size + 2 - rfpos R wr else 0)
          case atStart => exact HK
          case round =>
            clear HK
            rcases hrel.out with ⟨Sp, d, o, k, hIn, hok, hsp, hr, hik, hks, hlen, hN⟩ | ⟨k, er, q, lf, PA, np, pc, TA, nt, tc, KA, nk, kc, hne, hIn, hr, hks, hN⟩
            · obtain ⟨lf, hlf⟩ : ∃ lf, lf = o.n.lf := ⟨_, rfl⟩
              obtain ⟨PA, o1⟩ : ∃ x, x = o.PA := ⟨_, rfl⟩
              obtain ⟨np, o2⟩ : ∃ x, x = o.np := ⟨_, rfl⟩
              obtain ⟨pc, o3⟩ : ∃ x, x = o.pc := ⟨_, rfl⟩
              obtain ⟨TA, o4⟩ : ∃ x, x = o.TA := ⟨_, rfl⟩
              obtain ⟨nt, o5⟩ : ∃ x, x = o.nt := ⟨_, rfl⟩
              obtain ⟨tc, o6⟩ : ∃ x, x = o.tc := ⟨_, rfl⟩
              obtain ⟨nk, o8⟩ : ∃ x, x = o.n.ks.length := ⟨_, rfl⟩
              obtain ⟨KA, kc, o7⟩ : ∃ KA kc, o.vK = .slice KA nk kc := by
                obtain ⟨KA, kc, e, _⟩ := rowFree hok.row
                exact ⟨KA, kc, by rw [o8]; exact e⟩
              have hov : o.val = .agg #[.bool lf, .slice PA np pc, .slice TA nt tc, .slice KA nk kc] := Opn.val_of (by unfold Opn.row4; rw [hlf, o1, o2, o3, o4, o5, o6, o7])
              rw [← hlf, ← o1, ← o2, ← o3, ← o4, ← o5, ← o6, o7] at hIn
              rw [← o8] at hlen
              have HIn := hd hIn
              have HOK := hd hok
              have HSP := hd hsp
              have HR := hd hr
              have HN := hd hN
              have HOV := hd hov
              have HO7 := hd o7
              have HO8 := hd o8
              have HOP := hd (⟨hlf, o1, o2, o3, o4, o5, o6⟩ : lf = o.n.lf ∧ PA = o.PA ∧ np = o.np ∧ pc = o.pc ∧ TA = o.TA ∧ nt = o.nt ∧ tc = o.tc)
              have hpos := hr.pos_eq
              have hzr := hIn.off.size
              have hgl := hIn.own.lt
              obtain ⟨z9, hz9⟩ : ∃ z, nextZ s k = z := ⟨_, rfl⟩
              have h93z := nextZ_is (s := s) (i := k) (c := 93) (by decide)
              rw [hz9] at h93z
              have HN9 := hd (rfnext_any R s k 0 p wr HR.out z9 hz9 hks)
              obtain ⟨x0, x1, x2, x3⟩ := HR.out.cells
              clear hIn hok hsp hr hN hlf o1 o2 o3 o4 o5 o6 o7 o8 hov hz9 hrel
              go_wp2_with fail
              refine HN9.out.mono ?_
              rintro e w10 ⟨rfl, kd, rfl⟩
              have HI10 := hd (HIn.out.drewN kd)
              have HR10 := hd (HR.out.drewN kd)
              by_cases h93 : atB s k = some 93
              · have g93 : (z9 != 93) = false := by
                  have h1 : (z9 == 93) = true := by have := h93z; simpa [h93] using this
                  simpa using h1
                have hkl := atB_lt h93
                have HF := hd (HN.out.trans (kidsW_end (show s.data.toList[k]? = some 93 from h93)))
                have HT := hd (rftake_yes R s k 93 93 rfl 0 p (wr.drewN kd) HR10.out (by omega) h93)
                clear h93z h93 x0 x1 x2 x3
                go_wp2_with fail
                refine HT.out.mono ?_
                rintro e w11 ⟨rfl, hr11, ho11⟩
                have HI11 := hd (HI10.out.step hRl ho11)
                have HR11 := hd hr11
                have HOK11 := hd (HOK.out.keep (w' := w11) (fun _ h => h) fun b hb => by
                  have hbl : w.heap.size + 2 ≤ b ∧ b < wr.heap.size := by
                    rcases hb with hb | hb
                    · exact ⟨(HSP.out b hb).1, (HSP.out b hb).2.1⟩
                    · exact HOK.out.row.lt b hb
                  exact ho11.block b hbl.2 (by omega))
                have hz11 : wr.heap.size ≤ w11.heap.size := ho11.size
                have HTR := hd (HOK11.out.tree (Sq := fun b => w.heap.size + 2 ≤ b ∧ b < w11.heap.size) (by rw [← HO8.out]; omega) (fun b hb => ⟨(HSP.out b hb).1, by have := (HSP.out b hb).2.1; omega⟩) (fun b hb => by have := HOK11.out.row.lt b hb; exact this))
                rw [HOV.out] at HTR
                have HTR := hd HTR.out
                clear hr11 ho11
                obtain ⟨y0, y1, y2, y3⟩ := HI11.out.own.cells
                obtain ⟨u0, u1, u2, u3⟩ := HI11.out.out.cells
                obtain ⟨f0, f1, f2, f3⟩ := HI11.out.out.frees
                go_wp2
                refine bodyPost_ret (v := .agg #[.bool lf, .slice PA np pc, .slice TA nt tc, .slice KA nk kc]) (by simp [results, Tryd.results29, go_sem, u0, u1, u2, u3]) rfl ?_
                rw [HF.out]
                refine ⟨HI11.out.off.far4 (Nat.le_refl _) _ _ _ _, HR11.out.far4 (by omega) _ _ _ _, _, _, rfl, HTR.out.keep (fun b hb => ⟨by omega, by simpa using hb.2⟩) fun q hq => ?_⟩
                have := ((Off2.refl R w.heap.size w11).set4 (.bool lf) (.slice PA np pc) (.slice TA nt tc) (.slice KA nk kc)).block q.block hq.2 (by have := hq.1; omega) (by have := hq.1; omega)
                exact ⟨World.cell?_of_block this, World.frozen?_of_block this⟩
              · have g93 : (z9 != 93) = true := by
                  have h1 : (z9 == 93) = false := by have := h93z; simpa [h93] using this
                  simpa using h1
                have HNW := hd h93
                clear h93z h93 x0 x1 x2 x3
                go_upto_region 20 with fail
                refine Y_start (S := fun W => W.cell? ⟨w.heap.size + 1, 3, none⟩ = some (.slice KA nk kc)) (z := fun k => decide (6 ≤ k)) (by kernel_rfl) ?_
                obtain ⟨w1, hw1⟩ : ∃ w1, w1 = (wr.drewN kd).drew := ⟨_, rfl⟩
                rw [← hw1]
                have HD1 := hd (show OffB R wr.heap.size wr w1 from hw1 ▸ ((OffB.refl R wr.heap.size wr).drewN kd).trans (.of_below ((Below.refl _ _).drew) (Nat.le_refl _)))
                have hd1 : w1.heap = wr.heap := by rw [hw1]; rfl
                clear hw1 HI10 HR10
                have HI1 := hd (HIn.out.step hRl HD1.out)
                have HR1 := hd (show Rf R s k 0 p w1 from ⟨by rw [hd1]; exact HR.out.blk⟩)
                have hz1 : w1.heap.size = wr.heap.size := by rw [hd1]
                have hz1a : wr.heap.size ≤ w1.heap.size := by omega
                have hz1b : w1.heap.size ≤ wr.heap.size := by omega
                clear hd1 hz1
                have HSS := hd (HI1.out.own.cells.2.2.2)
                have HIH := hd (ih k w1 (by omega) hks HR1.out)
                refine Y_take (i := 0) (n := 7) (.pointer (some ⟨w.heap.size + 1, 3, none⟩)) rfl (by kernel_rfl) (by kernel_rfl) (by kernel_rfl) (by kernel_rfl) (fun _ _ _ h => h) (by rfl) (fun W hW => ?_) HSS.out ?_
                · go_simp
                simp only [Act.put, List.setIfInBounds_toArray]
                refine Y_take (i := 1) (n := 6) (.slice KA nk kc) rfl (by kernel_rfl) (by kernel_rfl) (by kernel_rfl) (by kernel_rfl) (fun _ _ _ h => h) (by rfl) (fun W hW => ?_) HSS.out ?_
                · go_simp
                simp only [Act.put]
                refine Y_take (i := 2) (n := 5) (.pointer (some ⟨R, 0, none⟩)) rfl (by kernel_rfl) (by kernel_rfl) (by kernel_rfl) (by kernel_rfl) (fun _ _ _ h => h) (by rfl) (fun W hW => ?_) HSS.out ?_
                · go_simp
                simp only [Act.put]
                refine Y_one (i := 3) (n := 4) (by kernel_rfl) rfl (fun K hK => ?_)
                rw [if_pos (by rfl)]
                go_simp
                go_at_call 29
                refine HIH.out.mono ?_
                intro e w2 h2
                have hes := HR.out.err_eq
                cases hn : nodeW s.data.toList k with
                | bad q er =>
                  rw [hn] at h2
                  obtain ⟨ho2, j2, lf5, PA5, np5, pc5, TA5, nt5, tc5, KA5, nk5, kc5, rfl, hj2, hr2⟩ := h2
                  have hne := (node_bad (by rw [data_size]; exact hks) hn).2
                  have HF := hd (HN.out.trans (kidsW_bad (show s.data.toList[k]? ≠ some 93 from HNW.out) hn))
                  clear hn
                  have hz2 := ho2.size
                  have HI2 := hd (HI1.out.step hRl ho2)
                  have HR2 := hd hr2
                  have HO2 := hd ho2
                  have HOR := hd (show w2.ownsRow (w.heap.size + 2) 26 4 (.slice KA nk kc) nk (flatK o.us) from by
                    have h1 := HOK.out.row
                    rw [HO7.out, ← HO8.out] at h1
                    exact row_kept h1 fun b hb => (HO2.out.block b (by have := h1.lt b hb; omega) (by have := h1.lt b hb; omega)).trans (HD1.out.block b (by have := h1.lt b hb; omega) (by have := h1.lt b hb; omega)))
                  refine hK _ _ (fun _ => HI2.out.own.cells.2.2.2) ?_
                  clear hK K hr2 ho2
                  have one : ∀ u ∈ [Value.bool lf5, .slice PA5 np5 pc5, .slice TA5 nt5 tc5, .slice KA5 nk5 kc5], u.oneCell' = true := by intro u hu; simp at hu; rcases hu with rfl | rfl | rfl | rfl <;> rfl
                  refine Y_one (i := 4) (n := 3) (by kernel_rfl) rfl (fun K hK => ?_)
                  rw [if_pos (by rfl)]
                  go_simp
                  refine hK _ _ (fun _ => (World.cell?_of_block (Below.heap_alloc _ _ _ HI2.out.own.lt)).trans HI2.out.own.cells.2.2.2) ?_
                  clear hK K
                  refine Y_one (i := 5) (n := 2) (by kernel_rfl) rfl (fun K hK => ?_)
                  refine step_app1 nodeG w2 rfl (.tmp 102) (.tmp 105) rfl (w.heap.size + 2) (.slice KA nk kc) nk (flatK o.us) [.bool lf5, .slice PA5 np5 pc5, .slice TA5 nt5 tc5, .slice KA5 nk5 kc5] rfl HOR.out rfl rfl one (by omega) (by decide) (by have := HI2.out.own.lt; omega) ?_
                  intro A6 c6 w3 hown3 hgrow3 hat3
                  have hB3 : Below (w.heap.size + 2) w2 w3 := ⟨hgrow3.os, hgrow3.tape, hgrow3.output, by have := hgrow3.size; simp at this; omega, fun b hb => (hgrow3.block b (by have := HI2.out.own.lt; simp; omega) (fun e => by have := (HOR.out.lt b e.symm).1; omega)).trans (Below.heap_alloc _ _ _ (by have := HI2.out.own.lt; omega))⟩
                  have HI3 := hd (HI2.out.low hB3)
                  refine hK _ _ (fun _ => HI3.out.own.cells.2.2.2) ?_
                  clear hK K one
                  refine Y_pure (i := 6) (n := 1) (.pointer (some ⟨w.heap.size + 1, 3, none⟩)) rfl rfl (by kernel_rfl) (by kernel_rfl) (by kernel_rfl) (fun _ _ _ h => h) (by rfl) (fun W => ?_) ?_
                  · go_simp
                  simp only [Act.put]
                  have c3 := HI3.out.own.cells.2.2.2
                  have f3 := HI3.out.own.free 3
                  refine Y_one (i := 7) (n := 0) (by kernel_rfl) rfl (fun K hK => ?_)
                  rw [if_pos (by rfl)]
                  go_simp
                  refine hK _ _ (fun h => absurd h (by decide)) (Y_done (by kernel_rfl) ?_)
                  clear hK K c3 f3
                  generalize hW4 : World.setCell w3 _ _ = W4
                  have HI4 := hd (hW4 ▸ HI3.out.set3 (.slice A6 (nk + 1) c6))
                  have HR4 := hd (hW4 ▸ (show Rf R s _ _ _ w3 from ⟨(hB3.block R (by omega)).trans HR2.out.blk⟩).far (q := w.heap.size + 1) (k := 3) (by omega) (.slice A6 (nk + 1) c6))
                  have HB4 := hd (fun (b : Nat) (h0 : w.heap.size + 2 ≤ b) (h1 : b < w2.heap.size) (h2 : (Value.slice KA nk kc).ownBlock ≠ some b) => (show W4.heap[b]? = w2.heap[b]? by
                    rw [← hW4, Below.heap_setCell _ _ _ _ (show b ≠ w.heap.size + 1 by omega), hgrow3.block b (by simp; omega) (fun e => h2 e.symm), Below.heap_alloc _ _ _ h1]))
                  have HOW4 := hd (hW4 ▸ ownsRow_setCell_below hown3 (a := ⟨w.heap.size + 1, 3, none⟩) (by show w.heap.size + 1 < _; omega) (.slice A6 (nk + 1) c6))
                  have HAT := hd hat3
                  have hz4 : w2.heap.size + 1 ≤ W4.heap.size := by rw [← hW4]; have := hgrow3.size; simp at this ⊢; omega
                  clear hW4 hown3 hgrow3 hat3 hB3 HI3
                  have HX := hd (show KidRel R s i p w W4 from .inr ⟨j2, er, q, _, _, _, _, _, _, _, _, _, _, hne, HI4.out, HR4.out, hj2, HF.out⟩)
                  have hm4 := HR4.out.err_eq
                  go_wp2
                  go_roundw
                  case rel => exact HX
                  case measure => rw [hm4, hes, hpos, if_neg hne, if_pos rfl]; omega
                | ok n5 j5 =>
                  rw [hn] at h2
                  obtain ⟨ho2, hr2, u5, d5, rfl, ht5⟩ := h2
                  have hj5 := node_ok (by rw [data_size]; exact hks) hn
                  rw [data_size] at hj5
                  obtain ⟨hj5a, hj5b⟩ := hj5
                  obtain ⟨lf5, PA5, np5, pc5, TA5, nt5, tc5, KA5, nk5, kc5, rfl⟩ : ∃ lf PA np pc TA nt tc KA nk kc, u5 = .agg #[.bool lf, .slice PA np pc, .slice TA nt tc, .slice KA nk kc] := by
                    cases d5 with
                    | zero => exact ht5.elim
                    | succ d => obtain ⟨PA, pc, TA, tc, KA, kc, e, _⟩ := ht5; exact ⟨_, _, _, _, _, _, _, _, _, _, e⟩
                  have HF := hd (HN.out.trans (kidsW_step (by rw [data_size]; exact hks) (show s.data.toList[k]? ≠ some 93 from HNW.out) hn))
                  have HT5 := hd ht5
                  clear hn ht5
                  have hz2 := ho2.size
                  have HI2 := hd (HI1.out.step hRl ho2)
                  have HR2 := hd hr2
                  have HO2 := hd ho2
                  have HOR := hd (show w2.ownsRow (w.heap.size + 2) 26 4 (.slice KA nk kc) nk (flatK o.us) from by
                    have h1 := HOK.out.row
                    rw [HO7.out, ← HO8.out] at h1
                    exact row_kept h1 fun b hb => (HO2.out.block b (by have := h1.lt b hb; omega) (by have := h1.lt b hb; omega)).trans (HD1.out.block b (by have := h1.lt b hb; omega) (by have := h1.lt b hb; omega)))
                  refine hK _ _ (fun _ => HI2.out.own.cells.2.2.2) ?_
                  clear hK K hr2 ho2
                  have one : ∀ u ∈ [Value.bool lf5, .slice PA5 np5 pc5, .slice TA5 nt5 tc5, .slice KA5 nk5 kc5], u.oneCell' = true := by intro u hu; simp at hu; rcases hu with rfl | rfl | rfl | rfl <;> rfl
                  refine Y_one (i := 4) (n := 3) (by kernel_rfl) rfl (fun K hK => ?_)
                  rw [if_pos (by rfl)]
                  go_simp
                  refine hK _ _ (fun _ => (World.cell?_of_block (Below.heap_alloc _ _ _ HI2.out.own.lt)).trans HI2.out.own.cells.2.2.2) ?_
                  clear hK K
                  refine Y_one (i := 5) (n := 2) (by kernel_rfl) rfl (fun K hK => ?_)
                  refine step_app1 nodeG w2 rfl (.tmp 102) (.tmp 105) rfl (w.heap.size + 2) (.slice KA nk kc) nk (flatK o.us) [.bool lf5, .slice PA5 np5 pc5, .slice TA5 nt5 tc5, .slice KA5 nk5 kc5] rfl HOR.out rfl rfl one (by omega) (by decide) (by have := HI2.out.own.lt; omega) ?_
                  intro A6 c6 w3 hown3 hgrow3 hat3
                  have hB3 : Below (w.heap.size + 2) w2 w3 := ⟨hgrow3.os, hgrow3.tape, hgrow3.output, by have := hgrow3.size; simp at this; omega, fun b hb => (hgrow3.block b (by have := HI2.out.own.lt; simp; omega) (fun e => by have := (HOR.out.lt b e.symm).1; omega)).trans (Below.heap_alloc _ _ _ (by have := HI2.out.own.lt; omega))⟩
                  have HI3 := hd (HI2.out.low hB3)
                  refine hK _ _ (fun _ => HI3.out.own.cells.2.2.2) ?_
                  clear hK K one
                  refine Y_pure (i := 6) (n := 1) (.pointer (some ⟨w.heap.size + 1, 3, none⟩)) rfl rfl (by kernel_rfl) (by kernel_rfl) (by kernel_rfl) (fun _ _ _ h => h) (by rfl) (fun W => ?_) ?_
                  · go_simp
                  simp only [Act.put]
                  have c3 := HI3.out.own.cells.2.2.2
                  have f3 := HI3.out.own.free 3
                  refine Y_one (i := 7) (n := 0) (by kernel_rfl) rfl (fun K hK => ?_)
                  rw [if_pos (by rfl)]
                  go_simp
                  refine hK _ _ (fun h => absurd h (by decide)) (Y_done (by kernel_rfl) ?_)
                  clear hK K c3 f3
                  generalize hW4 : World.setCell w3 _ _ = W4
                  have HI4 := hd (hW4 ▸ HI3.out.set3 (.slice A6 (nk + 1) c6))
                  have HR4 := hd (hW4 ▸ (show Rf R s _ _ _ w3 from ⟨(hB3.block R (by omega)).trans HR2.out.blk⟩).far (q := w.heap.size + 1) (k := 3) (by omega) (.slice A6 (nk + 1) c6))
                  have HB4 := hd (fun (b : Nat) (h0 : w.heap.size + 2 ≤ b) (h1 : b < w2.heap.size) (h2 : (Value.slice KA nk kc).ownBlock ≠ some b) => (show W4.heap[b]? = w2.heap[b]? by
                    rw [← hW4, Below.heap_setCell _ _ _ _ (show b ≠ w.heap.size + 1 by omega), hgrow3.block b (by simp; omega) (fun e => h2 e.symm), Below.heap_alloc _ _ _ h1]))
                  have HOW4 := hd (hW4 ▸ ownsRow_setCell_below hown3 (a := ⟨w.heap.size + 1, 3, none⟩) (by show w.heap.size + 1 < _; omega) (.slice A6 (nk + 1) c6))
                  have HAT := hd hat3
                  have hz4 : w2.heap.size + 1 ≤ W4.heap.size := by rw [← hW4]; have := hgrow3.size; simp at this ⊢; omega
                  clear hW4 hown3 hgrow3 hat3 hB3 HI3
                  have HOM := hd (HOK.out.more (w1 := w2) (w' := W4) (vK' := .slice A6 (nk + 1) c6) (lo := w1.heap.size) HSP.out (fun b h1 hb => (HO2.out.block b (by omega) (by have := (HSP.out b hb).1; omega)).trans (HD1.out.block b h1 (by have := (HSP.out b hb).1; omega))) HT5.out hz1a (by omega) (by omega) (fun b h0 h1 h2 => HB4.out b h0 h1 (by rw [← HO7.out]; exact h2)) (by rw [← HO8.out, flatK_append]; exact HOW4.out))
                  have HX := hd (show KidRel R s i p w W4 from .inl ⟨_, _, o.with1 (.slice A6 (nk + 1) c6) (.agg #[.bool lf5, .slice PA5 np5 pc5, .slice TA5 nt5 tc5, .slice KA5 nk5 kc5]) n5, j5, by
                      have h1 := HI4.out
                      obtain ⟨q1, q2, q3, q4, q5, q6, q7⟩ := HOP.out
                      rw [q1, q2, q3, q4, q5, q6, q7] at h1
                      exact h1, HOM.out, fun b hb => by
                      have hown : ∀ g, (Value.slice KA nk kc).ownBlock = some g → g < wr.heap.size := fun g hg => (HOK.out.row.lt g (by rw [HO7.out]; exact hg)).2
                      rcases hb with hb | hb
                      · have h3 := HSP.out b hb
                        refine ⟨h3.1, by omega, ?_⟩
                        show (Value.slice A6 (nk + 1) c6).ownBlock ≠ some b
                        rcases HAT.out with e | ⟨g, e, hg⟩
                        · rw [e, ← HO7.out]; exact h3.2.2
                        · rw [e]; intro e2; injection e2 with e2; omega
                      · refine ⟨by omega, by omega, ?_⟩
                        show (Value.slice A6 (nk + 1) c6).ownBlock ≠ some b
                        rcases HAT.out with e | ⟨g, e, hg⟩
                        · rw [e]; intro e2; have := hown b e2; omega
                        · rw [e]; intro e2; injection e2 with e2; omega, HR4.out, by omega, by omega, by
                      show (addK o.n n5).ks.length ≤ j5
                      have : (addK o.n n5).ks.length = o.n.ks.length + 1 := by simp [addK, NT.ks]
                      rw [this, ← HO8.out]; omega, HF.out⟩)
                  have hm4 := HR4.out.err_eq
                  have hm5 := HR4.out.pos_eq
                  go_wp2
                  go_roundw
                  case rel => exact HX
                  case measure => rw [hm4, hm5, hes, hpos, if_pos rfl, if_pos rfl]; omega
            · have hb : (er == 0) = false := by simpa using hne
              have HT := hd (rftake_bad R s k 93 93 rfl er (q : Int) wr hr hne hks (by omega))
              have HIn := hd hIn
              have HN := hd hN
              obtain ⟨x0, x1, x2, x3⟩ := hr.cells
              clear hIn hr hN hrel hne
              go_wp2_with fail
              refine HT.out.mono ?_
              rintro e w10 ⟨rfl, ho10, j10, hj1, hj2, hr10⟩
              have HI10 := hd (HIn.out.step hRl ho10)
              have HR10 := hd hr10
              clear hr10 ho10 x0 x1 x2 x3
              obtain ⟨y0, y1, y2, y3⟩ := HI10.out.own.cells
              obtain ⟨u0, u1, u2, u3⟩ := HI10.out.out.cells
              obtain ⟨f0, f1, f2, f3⟩ := HI10.out.out.frees
              go_wp2
              refine bodyPost_ret (v := .agg #[.bool lf, .slice PA np pc, .slice TA nt tc, .slice KA nk kc]) (by simp [results, Tryd.results29, go_sem, u0, u1, u2, u3]) rfl ?_
              rw [HN.out]
              exact ⟨HI10.out.off.far4 (Nat.le_refl _) _ _ _ _, j10, _, _, _, _, _, _, _, _, _, _, rfl, hj2, HR10.out.far4 (by omega) _ _ _ _⟩

end Go.Proofs.YtknkclbjocfhiaaDoor

namespace Go.Proofs.YtknkclbjocfhiaaDoor
open Go.RowKit

set_option maxHeartbeats 8000000 in
theorem rparse_any (s : ByteArray) (w : World) (hs : s.size ≤ 40000) :
    Calls Tryd.prog 14 #[.string s] w (ParseOk (parseL s.data.toList) w) := by
  obtain ⟨W1, hW1⟩ : ∃ W1, W1 = w.alloc (.cells #[.bool false, .slice none 0 0, .slice none 0 0, .slice none 0 0] 26) := ⟨_, rfl⟩
  obtain ⟨W2, hW2⟩ : ∃ W2, W2 = W1.alloc (.cells #[.string s, .int .i64 0, .int .i64 0, .int .i64 0] 63) := ⟨_, rfl⟩
  have hz1 : W1.heap.size = w.heap.size + 1 := by rw [hW1]; simp
  have hz2 : W2.heap.size = w.heap.size + 2 := by rw [hW2]; simp; omega
  have HR2 := hd (show Rf (w.heap.size + 1) s 0 0 0 W2 from hz1 ▸ hW2 ▸ ⟨newBlkAt W1 _ _⟩)
  have HV2 := hd (show V4 w.heap.size (.bool false) (.slice none 0 0) (.slice none 0 0) (.slice none 0 0) W2 from hW2 ▸ (hW1 ▸ V4.new w _ _ _ _ : V4 w.heap.size (.bool false) (.slice none 0 0) (.slice none 0 0) (.slice none 0 0) W1).below ((Below.refl _ _).alloc (Nat.le_refl _) _))
  have HB2 := hd (show Below w.heap.size w W2 from hW2 ▸ (hW1 ▸ (Below.refl _ _).alloc (Nat.le_refl _) _ : Below w.heap.size w W1).alloc (by omega) _)
  have HC := hd (rnode_any (w.heap.size + 1) s 0 hs (s.size + 1) 0 W2 (by omega) (Nat.zero_le _) HR2.out)
  have hg2 : W2.heap.size ≤ w.heap.size + 2 := by omega
  have hg3 : w.heap.size + 2 ≤ W2.heap.size := by omega
  clear hz1 hz2
  subst hW1 hW2
  go_enter Tryd.func14, Tryd.ntmps14
  go_wp2_with fail
  cases hn : nodeW s.data.toList 0 with
  | bad p er =>
    have HF := hd (parse_bad hn)
    have hne := (node_bad (Nat.zero_le _) hn).2
    have hb2 : (er != 0) = true := by simpa using hne
    rw [hn] at HC
    have HC := hd HC.out
    clear hn
    refine HC.out.mono ?_
    intro e w3 h3
    obtain ⟨ho3, j, lf, PA, np, pc, TA, nt, tc, KA, nk, kc, rfl, hj, hr3⟩ := h3
    have HV3 := hd (HV2.out.off ho3 (by omega))
    have HB3 := hd (HB2.out.trans (ho3.below (by omega) (by omega)))
    have HR3 := hd hr3
    clear ho3 hr3
    go_upto_region 3 with fail
    generalize hW4 : World.alloc w3 _ = w4
    have HV4 := hd (hW4 ▸ HV3.out.below ((Below.refl _ _).alloc (Nat.le_refl _) (.cells #[.bool lf, .slice PA np pc, .slice TA nt tc, .slice KA nk kc] 26)))
    have HB4 := hd (hW4 ▸ HB3.out.alloc HB3.out.size (.cells #[.bool lf, .slice PA np pc, .slice TA nt tc, .slice KA nk kc] 26))
    have HR4 := hd (hW4 ▸ HR3.out.alloc (.cells #[.bool lf, .slice PA np pc, .slice TA nt tc, .slice KA nk kc] 26))
    clear hW4
    have HNO := hd (rfail_no (w.heap.size + 1) s j er p 11 j w4 HR4.out hne)
    have HNE := hd hne
    clear hne
    obtain ⟨r0, r1, r2, r3⟩ := HR4.out.cells
    by_cases hjs : j < s.size
    · go_wp2_with fail
      refine HNO.out.mono ?_
      rintro e w5 ⟨rfl, hr5, ho5⟩
      have hzb := HB4.out.size
      have HV4 := hd (HV4.out.off ho5 (by omega))
      have HB4 := hd (HB4.out.trans (ho5.below (by omega) hzb))
      have HR4 := hd hr5
      clear hr5 ho5 r0 r1 r2 r3
      obtain ⟨r0, r1, r2, r3⟩ := HR4.out.cells
      go_upto_region 6 with fail
      clear r0 r1 r2 r3
      refine Y_start (S := fun W => W.cell? ⟨w.heap.size + 1, 3, none⟩ = some (.int .i64 p) ∧ W.cell? ⟨w.heap.size + 1, 2, none⟩ = some (.int .i64 er)) (z := fun _ => false) (by kernel_rfl) ?_
      obtain ⟨wd, hwd⟩ : ∃ wd, wd = w5.drew := ⟨_, rfl⟩
      rw [← hwd]
      have HV5 := hd (show V4 w.heap.size (.bool false) (.slice none 0 0) (.slice none 0 0) (.slice none 0 0) wd from hwd ▸ ⟨HV4.out.blk⟩)
      have HB5 := hd (show Below w.heap.size w wd from hwd ▸ HB4.out.drew)
      have HSS := hd (show wd.cell? ⟨w.heap.size + 1, 3, none⟩ = some (.int .i64 p) ∧ wd.cell? ⟨w.heap.size + 1, 2, none⟩ = some (.int .i64 er) from hwd ▸ ⟨HR4.out.cells.2.2.2, HR4.out.cells.2.2.1⟩)
      clear hwd
      obtain ⟨x0, x1, x2, x3⟩ := HV5.out.cells
      obtain ⟨f0, f1, f2, f3⟩ := HV5.out.frees
      refine Y_take (i := 0) (n := 11) (.agg #[.bool false, .slice none 0 0, .slice none 0 0, .slice none 0 0]) rfl (by kernel_rfl) (by kernel_rfl) (by kernel_rfl) (by kernel_rfl) (fun _ _ _ h => h) (by rfl) (fun W hW => ?_) HSS.out ?_
      · go_simp
      simp only [Act.put, List.setIfInBounds_toArray]
      refine Y_take (i := 1) (n := 10) (.pointer (some ⟨w.heap.size + 1, 0, none⟩)) rfl (by kernel_rfl) (by kernel_rfl) (by kernel_rfl) (by kernel_rfl) (fun _ _ _ h => h) (by rfl) (fun W hW => ?_) HSS.out ?_
      · go_simp
      simp only [Act.put]
      refine Y_take (i := 2) (n := 9) (.pointer (some ⟨w.heap.size + 1, 0, none⟩)) rfl (by kernel_rfl) (by kernel_rfl) (by kernel_rfl) (by kernel_rfl) (fun _ _ _ h => h) (by rfl) (fun W hW => ?_) HSS.out ?_
      · go_simp
      simp only [Act.put]
      refine Y_take (i := 3) (n := 8) (.pointer (some ⟨w.heap.size + 1, 3, none⟩)) rfl (by kernel_rfl) (by kernel_rfl) (by kernel_rfl) (by kernel_rfl) (fun _ _ _ h => h) (by rfl) (fun W hW => ?_) HSS.out ?_
      · go_simp
      simp only [Act.put]
      refine Y_take (i := 4) (n := 7) (.int .i64 p) rfl (by kernel_rfl) (by kernel_rfl) (by kernel_rfl) (by kernel_rfl) (fun _ _ _ h => h) (by rfl) (fun W hW => ?_) HSS.out ?_
      · go_simp
      simp only [Act.put]
      refine Y_take (i := 5) (n := 6) (.pointer (some ⟨w.heap.size + 1, 0, none⟩)) rfl (by kernel_rfl) (by kernel_rfl) (by kernel_rfl) (by kernel_rfl) (fun _ _ _ h => h) (by rfl) (fun W hW => ?_) HSS.out ?_
      · go_simp
      simp only [Act.put]
      refine Y_take (i := 6) (n := 5) (.pointer (some ⟨w.heap.size + 1, 0, none⟩)) rfl (by kernel_rfl) (by kernel_rfl) (by kernel_rfl) (by kernel_rfl) (fun _ _ _ h => h) (by rfl) (fun W hW => ?_) HSS.out ?_
      · go_simp
      simp only [Act.put]
      refine Y_take (i := 7) (n := 4) (.pointer (some ⟨w.heap.size + 1, 2, none⟩)) rfl (by kernel_rfl) (by kernel_rfl) (by kernel_rfl) (by kernel_rfl) (fun _ _ _ h => h) (by rfl) (fun W hW => ?_) HSS.out ?_
      · go_simp
      simp only [Act.put]
      refine Y_take (i := 8) (n := 3) (.int .i64 er) rfl (by kernel_rfl) (by kernel_rfl) (by kernel_rfl) (by kernel_rfl) (fun _ _ _ h => h) (by rfl) (fun W hW => ?_) HSS.out ?_
      · go_simp
      simp only [Act.put]
      have HS4 := hd (show (set4At wd w.heap.size 0 (.bool false) (.slice none 0 0) (.slice none 0 0) (.slice none 0 0)).cell? ⟨w.heap.size + 1, 3, none⟩ = some (.int .i64 p) ∧ (set4At wd w.heap.size 0 (.bool false) (.slice none 0 0) (.slice none 0 0) (.slice none 0 0)).cell? ⟨w.heap.size + 1, 2, none⟩ = some (.int .i64 er) from ⟨(World.cell?_of_block (set4_far (by show w.heap.size + 1 ≠ w.heap.size; omega))).trans HSS.out.1, (World.cell?_of_block (set4_far (by show w.heap.size + 1 ≠ w.heap.size; omega))).trans HSS.out.2⟩)
      refine Y_one (i := 9) (n := 2) (by kernel_rfl) rfl (fun K hK => ?_)
      rw [if_pos (by rfl)]
      go_simp
      refine hK _ _ (fun _ => HS4.out) ?_
      clear hK K
      refine Y_one (i := 10) (n := 1) (by kernel_rfl) rfl (fun K hK => ?_)
      rw [if_pos (by rfl)]
      go_simp
      refine hK _ _ (fun _ => HS4.out) ?_
      clear hK K
      refine Y_one (i := 11) (n := 0) (by kernel_rfl) rfl (fun K hK => ?_)
      rw [if_pos (by rfl)]
      go_simp
      refine hK _ _ (fun _ => HS4.out) (Y_done (by kernel_rfl) ?_)
      clear hK K
      go_wp2
      refine bodyPost_ret (v := .tuple #[.agg #[.bool false, .slice none 0 0, .slice none 0 0, .slice none 0 0], .int .i64 p, .int .i64 er]) (by simp [results, Tryd.results14, go_sem, x0, x1, x2, x3]) rfl ?_
      rw [HF.out]
      exact ⟨_, 1, rfl, noT_tree _ _, (((HB5.out.setCell (p := ⟨w.heap.size, 0, none⟩) (Nat.le_refl _) _).setCell (p := ⟨w.heap.size, 1, none⟩) (Nat.le_refl _) _).setCell (p := ⟨w.heap.size, 2, none⟩) (Nat.le_refl _) _).setCell (p := ⟨w.heap.size, 3, none⟩) (Nat.le_refl _) _⟩
    · have hjj : decide (j < s.size) = false := decide_eq_false hjs
      go_upto_region 6 with fail
      clear r0 r1 r2 r3
      refine Y_start (S := fun W => W.cell? ⟨w.heap.size + 1, 3, none⟩ = some (.int .i64 p) ∧ W.cell? ⟨w.heap.size + 1, 2, none⟩ = some (.int .i64 er)) (z := fun _ => false) (by kernel_rfl) ?_
      obtain ⟨wd, hwd⟩ : ∃ wd, wd = w4.drew := ⟨_, rfl⟩
      rw [← hwd]
      have HV5 := hd (show V4 w.heap.size (.bool false) (.slice none 0 0) (.slice none 0 0) (.slice none 0 0) wd from hwd ▸ ⟨HV4.out.blk⟩)
      have HB5 := hd (show Below w.heap.size w wd from hwd ▸ HB4.out.drew)
      have HSS := hd (show wd.cell? ⟨w.heap.size + 1, 3, none⟩ = some (.int .i64 p) ∧ wd.cell? ⟨w.heap.size + 1, 2, none⟩ = some (.int .i64 er) from hwd ▸ ⟨HR4.out.cells.2.2.2, HR4.out.cells.2.2.1⟩)
      clear hwd
      obtain ⟨x0, x1, x2, x3⟩ := HV5.out.cells
      obtain ⟨f0, f1, f2, f3⟩ := HV5.out.frees
      refine Y_take (i := 0) (n := 11) (.agg #[.bool false, .slice none 0 0, .slice none 0 0, .slice none 0 0]) rfl (by kernel_rfl) (by kernel_rfl) (by kernel_rfl) (by kernel_rfl) (fun _ _ _ h => h) (by rfl) (fun W hW => ?_) HSS.out ?_
      · go_simp
      simp only [Act.put, List.setIfInBounds_toArray]
      refine Y_take (i := 1) (n := 10) (.pointer (some ⟨w.heap.size + 1, 0, none⟩)) rfl (by kernel_rfl) (by kernel_rfl) (by kernel_rfl) (by kernel_rfl) (fun _ _ _ h => h) (by rfl) (fun W hW => ?_) HSS.out ?_
      · go_simp
      simp only [Act.put]
      refine Y_take (i := 2) (n := 9) (.pointer (some ⟨w.heap.size + 1, 0, none⟩)) rfl (by kernel_rfl) (by kernel_rfl) (by kernel_rfl) (by kernel_rfl) (fun _ _ _ h => h) (by rfl) (fun W hW => ?_) HSS.out ?_
      · go_simp
      simp only [Act.put]
      refine Y_take (i := 3) (n := 8) (.pointer (some ⟨w.heap.size + 1, 3, none⟩)) rfl (by kernel_rfl) (by kernel_rfl) (by kernel_rfl) (by kernel_rfl) (fun _ _ _ h => h) (by rfl) (fun W hW => ?_) HSS.out ?_
      · go_simp
      simp only [Act.put]
      refine Y_take (i := 4) (n := 7) (.int .i64 p) rfl (by kernel_rfl) (by kernel_rfl) (by kernel_rfl) (by kernel_rfl) (fun _ _ _ h => h) (by rfl) (fun W hW => ?_) HSS.out ?_
      · go_simp
      simp only [Act.put]
      refine Y_take (i := 5) (n := 6) (.pointer (some ⟨w.heap.size + 1, 0, none⟩)) rfl (by kernel_rfl) (by kernel_rfl) (by kernel_rfl) (by kernel_rfl) (fun _ _ _ h => h) (by rfl) (fun W hW => ?_) HSS.out ?_
      · go_simp
      simp only [Act.put]
      refine Y_take (i := 6) (n := 5) (.pointer (some ⟨w.heap.size + 1, 0, none⟩)) rfl (by kernel_rfl) (by kernel_rfl) (by kernel_rfl) (by kernel_rfl) (fun _ _ _ h => h) (by rfl) (fun W hW => ?_) HSS.out ?_
      · go_simp
      simp only [Act.put]
      refine Y_take (i := 7) (n := 4) (.pointer (some ⟨w.heap.size + 1, 2, none⟩)) rfl (by kernel_rfl) (by kernel_rfl) (by kernel_rfl) (by kernel_rfl) (fun _ _ _ h => h) (by rfl) (fun W hW => ?_) HSS.out ?_
      · go_simp
      simp only [Act.put]
      refine Y_take (i := 8) (n := 3) (.int .i64 er) rfl (by kernel_rfl) (by kernel_rfl) (by kernel_rfl) (by kernel_rfl) (fun _ _ _ h => h) (by rfl) (fun W hW => ?_) HSS.out ?_
      · go_simp
      simp only [Act.put]
      have HS4 := hd (show (set4At wd w.heap.size 0 (.bool false) (.slice none 0 0) (.slice none 0 0) (.slice none 0 0)).cell? ⟨w.heap.size + 1, 3, none⟩ = some (.int .i64 p) ∧ (set4At wd w.heap.size 0 (.bool false) (.slice none 0 0) (.slice none 0 0) (.slice none 0 0)).cell? ⟨w.heap.size + 1, 2, none⟩ = some (.int .i64 er) from ⟨(World.cell?_of_block (set4_far (by show w.heap.size + 1 ≠ w.heap.size; omega))).trans HSS.out.1, (World.cell?_of_block (set4_far (by show w.heap.size + 1 ≠ w.heap.size; omega))).trans HSS.out.2⟩)
      refine Y_one (i := 9) (n := 2) (by kernel_rfl) rfl (fun K hK => ?_)
      rw [if_pos (by rfl)]
      go_simp
      refine hK _ _ (fun _ => HS4.out) ?_
      clear hK K
      refine Y_one (i := 10) (n := 1) (by kernel_rfl) rfl (fun K hK => ?_)
      rw [if_pos (by rfl)]
      go_simp
      refine hK _ _ (fun _ => HS4.out) ?_
      clear hK K
      refine Y_one (i := 11) (n := 0) (by kernel_rfl) rfl (fun K hK => ?_)
      rw [if_pos (by rfl)]
      go_simp
      refine hK _ _ (fun _ => HS4.out) (Y_done (by kernel_rfl) ?_)
      clear hK K
      go_wp2
      refine bodyPost_ret (v := .tuple #[.agg #[.bool false, .slice none 0 0, .slice none 0 0, .slice none 0 0], .int .i64 p, .int .i64 er]) (by simp [results, Tryd.results14, go_sem, x0, x1, x2, x3]) rfl ?_
      rw [HF.out]
      exact ⟨_, 1, rfl, noT_tree _ _, (((HB5.out.setCell (p := ⟨w.heap.size, 0, none⟩) (Nat.le_refl _) _).setCell (p := ⟨w.heap.size, 1, none⟩) (Nat.le_refl _) _).setCell (p := ⟨w.heap.size, 2, none⟩) (Nat.le_refl _) _).setCell (p := ⟨w.heap.size, 3, none⟩) (Nat.le_refl _) _⟩
  | ok n j =>
    have hjr := node_ok (Nat.zero_le _) hn
    rw [data_size] at hjr
    rw [hn] at HC
    have HC := hd HC.out
    have HN := hd hn
    clear hn
    refine HC.out.mono ?_
    intro e w3 h3
    obtain ⟨ho3, hr3, u, d, rfl, ht3⟩ := h3
    have HV3 := hd (HV2.out.off ho3 (by omega))
    have HB3 := hd (HB2.out.trans (ho3.below (by omega) (by omega)))
    have HR3 := hd hr3
    have HT3 := hd ht3
    obtain ⟨lf, PA, np, pc, TA, nt, tc, KA, nk, kc, rfl⟩ : ∃ lf PA np pc TA nt tc KA nk kc, u = .agg #[.bool lf, .slice PA np pc, .slice TA nt tc, .slice KA nk kc] := by
      cases d with
      | zero => exact ht3.elim
      | succ d => obtain ⟨PA, pc, TA, tc, KA, kc, e, _⟩ := ht3; exact ⟨_, _, _, _, _, _, _, _, _, _, e⟩
    clear ho3 hr3 ht3
    go_upto_region 3 with fail
    generalize hW4 : World.alloc w3 _ = w4
    have HV4 := hd (hW4 ▸ HV3.out.below ((Below.refl _ _).alloc (Nat.le_refl _) (.cells #[.bool lf, .slice PA np pc, .slice TA nt tc, .slice KA nk kc] 26)))
    have HB4 := hd (hW4 ▸ HB3.out.alloc HB3.out.size (.cells #[.bool lf, .slice PA np pc, .slice TA nt tc, .slice KA nk kc] 26))
    have HR4 := hd (hW4 ▸ HR3.out.alloc (.cells #[.bool lf, .slice PA np pc, .slice TA nt tc, .slice KA nk kc] 26))
    have HX4 := hd (hW4 ▸ V4.new w3 (.bool lf) (.slice PA np pc) (.slice TA nt tc) (.slice KA nk kc))
    have HT4 := hd (HT3.out.keep (w' := w4) (fun _ h => h) fun p hp => by
      have := Below.heap_alloc w3 (.cells #[.bool lf, .slice PA np pc, .slice TA nt tc, .slice KA nk kc] 26) p.block hp.2
      rw [hW4] at this
      exact ⟨World.cell?_of_block this, World.frozen?_of_block this⟩)
    have hz4 : w3.heap.size ≤ w4.heap.size := by rw [← hW4]; simp
    have h30 := HV3.out.lt
    clear hW4
    obtain ⟨r0, r1, r2, r3⟩ := HR4.out.cells
    by_cases hj : j < s.size
    · have HF := hd (parse_more HN.out (by rw [data_size]; exact hj))
      have HOK := hd (rfail_ok (w.heap.size + 1) s j 0 11 j w4 HR4.out)
      go_wp2_with fail
      have hb2 : ((11 : Int) != 0) = true := by decide
      refine HOK.out.mono ?_
      rintro e w5 ⟨rfl, hr5, ho5⟩
      have hzb := HB4.out.size
      have HV4 := hd (HV4.out.off ho5 (by omega))
      have HB4 := hd (HB4.out.trans (ho5.below (by omega) hzb))
      have HR4 := hd hr5
      clear hr5 ho5 r0 r1 r2 r3
      obtain ⟨r0, r1, r2, r3⟩ := HR4.out.cells
      go_upto_region 6 with fail
      clear r0 r1 r2 r3
      refine Y_start (S := fun W => W.cell? ⟨w.heap.size + 1, 3, none⟩ = some (.int .i64 j) ∧ W.cell? ⟨w.heap.size + 1, 2, none⟩ = some (.int .i64 11)) (z := fun _ => false) (by kernel_rfl) ?_
      obtain ⟨wd, hwd⟩ : ∃ wd, wd = w5.drew := ⟨_, rfl⟩
      rw [← hwd]
      have HV5 := hd (show V4 w.heap.size (.bool false) (.slice none 0 0) (.slice none 0 0) (.slice none 0 0) wd from hwd ▸ ⟨HV4.out.blk⟩)
      have HB5 := hd (show Below w.heap.size w wd from hwd ▸ HB4.out.drew)
      have HSS := hd (show wd.cell? ⟨w.heap.size + 1, 3, none⟩ = some (.int .i64 j) ∧ wd.cell? ⟨w.heap.size + 1, 2, none⟩ = some (.int .i64 11) from hwd ▸ ⟨HR4.out.cells.2.2.2, HR4.out.cells.2.2.1⟩)
      clear hwd
      obtain ⟨x0, x1, x2, x3⟩ := HV5.out.cells
      obtain ⟨f0, f1, f2, f3⟩ := HV5.out.frees
      refine Y_take (i := 0) (n := 11) (.agg #[.bool false, .slice none 0 0, .slice none 0 0, .slice none 0 0]) rfl (by kernel_rfl) (by kernel_rfl) (by kernel_rfl) (by kernel_rfl) (fun _ _ _ h => h) (by rfl) (fun W hW => ?_) HSS.out ?_
      · go_simp
      simp only [Act.put, List.setIfInBounds_toArray]
      refine Y_take (i := 1) (n := 10) (.pointer (some ⟨w.heap.size + 1, 0, none⟩)) rfl (by kernel_rfl) (by kernel_rfl) (by kernel_rfl) (by kernel_rfl) (fun _ _ _ h => h) (by rfl) (fun W hW => ?_) HSS.out ?_
      · go_simp
      simp only [Act.put]
      refine Y_take (i := 2) (n := 9) (.pointer (some ⟨w.heap.size + 1, 0, none⟩)) rfl (by kernel_rfl) (by kernel_rfl) (by kernel_rfl) (by kernel_rfl) (fun _ _ _ h => h) (by rfl) (fun W hW => ?_) HSS.out ?_
      · go_simp
      simp only [Act.put]
      refine Y_take (i := 3) (n := 8) (.pointer (some ⟨w.heap.size + 1, 3, none⟩)) rfl (by kernel_rfl) (by kernel_rfl) (by kernel_rfl) (by kernel_rfl) (fun _ _ _ h => h) (by rfl) (fun W hW => ?_) HSS.out ?_
      · go_simp
      simp only [Act.put]
      refine Y_take (i := 4) (n := 7) (.int .i64 j) rfl (by kernel_rfl) (by kernel_rfl) (by kernel_rfl) (by kernel_rfl) (fun _ _ _ h => h) (by rfl) (fun W hW => ?_) HSS.out ?_
      · go_simp
      simp only [Act.put]
      refine Y_take (i := 5) (n := 6) (.pointer (some ⟨w.heap.size + 1, 0, none⟩)) rfl (by kernel_rfl) (by kernel_rfl) (by kernel_rfl) (by kernel_rfl) (fun _ _ _ h => h) (by rfl) (fun W hW => ?_) HSS.out ?_
      · go_simp
      simp only [Act.put]
      refine Y_take (i := 6) (n := 5) (.pointer (some ⟨w.heap.size + 1, 0, none⟩)) rfl (by kernel_rfl) (by kernel_rfl) (by kernel_rfl) (by kernel_rfl) (fun _ _ _ h => h) (by rfl) (fun W hW => ?_) HSS.out ?_
      · go_simp
      simp only [Act.put]
      refine Y_take (i := 7) (n := 4) (.pointer (some ⟨w.heap.size + 1, 2, none⟩)) rfl (by kernel_rfl) (by kernel_rfl) (by kernel_rfl) (by kernel_rfl) (fun _ _ _ h => h) (by rfl) (fun W hW => ?_) HSS.out ?_
      · go_simp
      simp only [Act.put]
      refine Y_take (i := 8) (n := 3) (.int .i64 11) rfl (by kernel_rfl) (by kernel_rfl) (by kernel_rfl) (by kernel_rfl) (fun _ _ _ h => h) (by rfl) (fun W hW => ?_) HSS.out ?_
      · go_simp
      simp only [Act.put]
      have HS4 := hd (show (set4At wd w.heap.size 0 (.bool false) (.slice none 0 0) (.slice none 0 0) (.slice none 0 0)).cell? ⟨w.heap.size + 1, 3, none⟩ = some (.int .i64 j) ∧ (set4At wd w.heap.size 0 (.bool false) (.slice none 0 0) (.slice none 0 0) (.slice none 0 0)).cell? ⟨w.heap.size + 1, 2, none⟩ = some (.int .i64 11) from ⟨(World.cell?_of_block (set4_far (by show w.heap.size + 1 ≠ w.heap.size; omega))).trans HSS.out.1, (World.cell?_of_block (set4_far (by show w.heap.size + 1 ≠ w.heap.size; omega))).trans HSS.out.2⟩)
      refine Y_one (i := 9) (n := 2) (by kernel_rfl) rfl (fun K hK => ?_)
      rw [if_pos (by rfl)]
      go_simp
      refine hK _ _ (fun _ => HS4.out) ?_
      clear hK K
      refine Y_one (i := 10) (n := 1) (by kernel_rfl) rfl (fun K hK => ?_)
      rw [if_pos (by rfl)]
      go_simp
      refine hK _ _ (fun _ => HS4.out) ?_
      clear hK K
      refine Y_one (i := 11) (n := 0) (by kernel_rfl) rfl (fun K hK => ?_)
      rw [if_pos (by rfl)]
      go_simp
      refine hK _ _ (fun _ => HS4.out) (Y_done (by kernel_rfl) ?_)
      clear hK K
      go_wp2
      refine bodyPost_ret (v := .tuple #[.agg #[.bool false, .slice none 0 0, .slice none 0 0, .slice none 0 0], .int .i64 j, .int .i64 11]) (by simp [results, Tryd.results14, go_sem, x0, x1, x2, x3]) rfl ?_
      rw [HF.out]
      exact ⟨_, 1, rfl, noT_tree _ _, (((HB5.out.setCell (p := ⟨w.heap.size, 0, none⟩) (Nat.le_refl _) _).setCell (p := ⟨w.heap.size, 1, none⟩) (Nat.le_refl _) _).setCell (p := ⟨w.heap.size, 2, none⟩) (Nat.le_refl _) _).setCell (p := ⟨w.heap.size, 3, none⟩) (Nat.le_refl _) _⟩
    · have HF := hd (show parseL s.data.toList = (n, 0, 0) from parse_ok (by have := HN.out; rw [show j = s.data.toList.length by rw [data_size]; omega] at this; exact this))
      have hjj : decide (j < s.size) = false := decide_eq_false hj
      obtain ⟨y0, y1, y2, y3⟩ := HX4.out.cells
      obtain ⟨x0, x1, x2, x3⟩ := HV4.out.cells
      obtain ⟨f0, f1, f2, f3⟩ := HV4.out.frees
      go_wp2
      refine bodyPost_ret (v := .tuple #[.agg #[.bool lf, .slice PA np pc, .slice TA nt tc, .slice KA nk kc], .int .i64 0, .int .i64 0]) (by simp [results, Tryd.results14, go_sem, x0, x1, x2, x3]) rfl ?_
      rw [HF.out]
      refine ⟨_, d, rfl, HT4.out.keep (fun b hb => ⟨by omega, by have := hb.2; simp; omega⟩) (fun p hp => ?_), (((HB4.out.setCell (p := ⟨w.heap.size, 0, none⟩) (Nat.le_refl _) _).setCell (p := ⟨w.heap.size, 1, none⟩) (Nat.le_refl _) _).setCell (p := ⟨w.heap.size, 2, none⟩) (Nat.le_refl _) _).setCell (p := ⟨w.heap.size, 3, none⟩) (Nat.le_refl _) _⟩
      have := ((Off2.refl (w.heap.size + 1) w.heap.size w4).set4 (.bool lf) (.slice PA np pc) (.slice TA nt tc) (.slice KA nk kc)).block p.block (by have := hp.2; omega) (by have := hp.1; omega) (by have := hp.1; omega)
      exact ⟨World.cell?_of_block this, World.frozen?_of_block this⟩

end Go.Proofs.YtknkclbjocfhiaaDoor
