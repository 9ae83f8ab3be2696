/- The reader of a text: the byte that stands here, one byte taken, a word. -/
import Derived.Test.YtknkclbjocfhiaaDoorCLay
import Derived.Test.YtknkclbjocfhiaaDoorCPlain
import Derived.Test.YtknkclbjocfhiaaDoorGRead
import Derived.StillTailTactics
namespace Go.Proofs.YtknkclbjocfhiaaDoor
open Go.RowKit

/-- Nothing below B has changed but block R. -/
structure OffB (R B : Nat) (w w' : World) : Prop where
  os : w'.os = w.os
  tape : w'.tape = w.tape
  output : w'.output = w.output
  size : w.heap.size ≤ w'.heap.size
  block : ∀ k, k < B → k ≠ R → w'.heap[k]? = w.heap[k]?
section
variable {R B : Nat} {w w' w2 : World}
set_option maxRecDepth 4000 in
theorem OffB.refl (R B : Nat) (w : World) : OffB R B w w := ⟨rfl, rfl, rfl, Nat.le_refl _, fun _ _ _ => rfl⟩
set_option maxRecDepth 4000 in
theorem OffB.trans (h : OffB R B w w') (k : OffB R B w' w2) : OffB R B w w2 :=
  ⟨k.os.trans h.os, k.tape.trans h.tape, k.output.trans h.output, Nat.le_trans h.size k.size, fun i h1 h2 => (k.block i h1 h2).trans (h.block i h1 h2)⟩
set_option maxRecDepth 4000 in
theorem OffB.of_below {C : Nat} (h : Below C w w') (hB : B ≤ C) : OffB R B w w' := ⟨h.os, h.tape, h.output, h.size, fun k hk _ => h.block k (by omega)⟩
set_option maxRecDepth 4000 in
theorem OffB.less {C : Nat} (h : OffB R C w w') (hB : B ≤ C) : OffB R B w w' := ⟨h.os, h.tape, h.output, h.size, fun k hk hr => h.block k (by omega) hr⟩
set_option maxRecDepth 4000 in
theorem OffB.below {C : Nat} (h : OffB R B w w') (hC : C ≤ R) (hB : C ≤ B) : Below C w w' := ⟨h.os, h.tape, h.output, h.size, fun k hk => h.block k (by omega) (by omega)⟩
set_option maxRecDepth 4000 in
theorem OffB.set (h : OffB R B w w') (j : Nat) (u : Value) : OffB R B w (w'.setCell ⟨R, j, none⟩ u) :=
  ⟨h.os, h.tape, h.output, by simpa using h.size, fun k h1 h2 => (Below.heap_setCell _ _ _ _ (by simpa using h2)).trans (h.block k h1 h2)⟩
set_option maxRecDepth 4000 in
theorem OffB.drewN (h : OffB R B w w') (n : Nat) : OffB R B w (w'.drewN n) := ⟨h.os, h.tape, h.output, h.size, h.block⟩
set_option maxRecDepth 4000 in
theorem OffB.alloc (h : OffB R B w w') (o : Obj) (hB : B ≤ w'.heap.size) : OffB R B w (w'.alloc o) := h.trans (.of_below ((Below.refl _ _).alloc (Nat.le_refl _) _) hB)
set_option maxRecDepth 4000 in
theorem OffB.cell (h : OffB R B w w') {p : Addr} (hp : p.block < B) (hr : p.block ≠ R) : w'.cell? p = w.cell? p := World.cell?_of_block (h.block _ hp hr)
set_option maxRecDepth 4000 in
theorem OffB.frozen (h : OffB R B w w') {p : Addr} (hp : p.block < B) (hr : p.block ≠ R) : w'.frozen? p = w.frozen? p := World.frozen?_of_block (h.block _ hp hr)
end

/-- The reader in block R has read s up to i. -/
structure Rd (R : Nat) (s : ByteArray) (i : Nat) (w : World) : Prop where
  blk : w.heap[R]? = some (.cells #[.string s, .int .i64 i] 59 (0, 0))
section
variable {R i : Nat} {s : ByteArray} {w w' : World}
set_option maxRecDepth 4000 in
theorem Rd.lt (h : Rd R s i w) : R < w.heap.size := (Array.getElem?_eq_some_iff.1 h.blk).1
set_option maxRecDepth 4000 in
theorem Rd.cells (h : Rd R s i w) : w.cell? ⟨R, 0, none⟩ = some (.string s) ∧ w.cell? ⟨R, 1, none⟩ = some (.int .i64 i) ∧ w.frozen? ⟨R, 1, none⟩ = false := by
  refine ⟨?_, ?_, ?_⟩
  · rw [Lib.cell_of_heap h.blk]; rfl
  · rw [Lib.cell_of_heap h.blk]; rfl
  · exact Lib.frozen_of_heap h.blk 1
set_option maxRecDepth 4000 in
theorem Rd.below (h : Rd R s i w) (hb : Below w.heap.size w w') : Rd R s i w' := ⟨(hb.block _ h.lt).trans h.blk⟩
set_option maxRecDepth 4000 in
theorem Rd.drewN (h : Rd R s i w) (n : Nat) : Rd R s i (w.drewN n) := ⟨h.blk⟩
set_option maxRecDepth 4000 in
theorem Rd.set (h : Rd R s i w) (j : Nat) : Rd R s j (w.setCell ⟨R, 1, none⟩ (.int .i64 j)) := by
  refine ⟨?_⟩
  have h1 := h.blk
  have hlt := h.lt
  have h' : w.heap[R] = .cells #[.string s, .int .i64 i] 59 (0, 0) := by simpa [Array.getElem?_eq_getElem hlt] using h1
  show (w.heap.modify R _)[R]? = _
  rw [Array.getElem?_eq_getElem (by simpa using hlt), Array.getElem_modify_self, h']
  rfl
end

/-- What a byte of the text is. -/
def atB (s : ByteArray) (i : Nat) : Option UInt8 := s.data.toList[i]?
set_option maxRecDepth 4000 in
theorem atB_some {s : ByteArray} {i : Nat} (h : i < s.size) : atB s i = some s[i] := by
  unfold atB
  rw [List.getElem?_eq_getElem (by rw [data_size]; exact h)]
  rfl
set_option maxRecDepth 4000 in
theorem atB_none {s : ByteArray} {i : Nat} (h : s.size ≤ i) : atB s i = none := by
  unfold atB
  rw [List.getElem?_eq_none_iff, data_size]; exact h
set_option maxRecDepth 4000 in
theorem atB_lt {s : ByteArray} {i : Nat} {c : UInt8} (h : atB s i = some c) : i < s.size := by
  have := (List.getElem?_eq_some_iff.1 h).1
  rwa [data_size] at this
set_option maxRecDepth 4000 in
theorem byte_ne {b c : UInt8} (h : b ≠ c) : (b.toNat : Int) ≠ c.toNat := fun e => h (UInt8.toNat_inj.1 (by omega))

set_option maxRecDepth 4000 in
set_option maxHeartbeats 1000000 in
theorem rnext_any (R : Nat) (s : ByteArray) (i : Nat) (c : UInt8) (z : Int) (hz : z = c.toNat) (b : Bool) (hb : decide (atB s i = some c) = b) (w : World) (h : Rd R s i w) (_hs : s.size ≤ 1000000) :
    Calls Tryd.prog 75 #[.pointer (some ⟨R, 0, none⟩), .int .u8 z] w (Quiet (.bool b) w) := by
  obtain ⟨x0, x1, _⟩ := h.cells
  clear h
  by_cases hlt : i < s.size
  · have hlt' : (i : Int) < (s.size : Int) := by omega
    obtain ⟨x, hx⟩ : ∃ x : Int, (s[i].toNat : Int) = x := ⟨_, rfl⟩
    rw [atB_some hlt] at hb
    have HB := hd (show (x == z) = b by
      rw [← hb, ← hx, hz]
      by_cases e : s[i] = c
      · simp [e]
      · have := byte_ne e
        simp only [Option.some.injEq, e, decide_false]
        exact beq_eq_false_iff_ne.2 this)
    have hbnd := s[i].toNat_lt
    clear hb hz
    go_enter Tryd.func75, Tryd.ntmps75
    go_wp2_with fail
    go_quiet (fail)
    go_wp2
    go_ret
    exact ret_quiet (bool_eq (by simpa using HB.out)) (by first | exact ⟨_, rfl⟩ | exact ⟨_, World.drewN_drewN _ _ _⟩ | exact ⟨_, (World.drewN_drewN _ _ _).trans (World.drewN_drewN _ _ _)⟩)
  · have hlt' : decide (i < s.size) = false := decide_eq_false hlt
    have HB := hd (show false = b by rw [← hb, atB_none (by omega)]; rfl)
    clear hb hz hlt
    go_enter Tryd.func75, Tryd.ntmps75
    go_wp2_with fail
    go_quiet (fail)
    go_wp2
    go_ret
    exact ret_quiet (bool_eq HB.out) (by first | exact ⟨_, rfl⟩ | exact ⟨_, World.drewN_drewN _ _ _⟩ | exact ⟨_, (World.drewN_drewN _ _ _).trans (World.drewN_drewN _ _ _)⟩)

set_option maxRecDepth 4000 in
/-- A byte that does not stand here, and one that does. -/
theorem take_no (R : Nat) (s : ByteArray) (i : Nat) (c : UInt8) (z : Int) (hz : z = c.toNat) (w : World) (h : Rd R s i w) (hs : s.size ≤ 1000000) (hc : atB s i ≠ some c) :
    Calls Tryd.prog 52 #[.pointer (some ⟨R, 0, none⟩), .int .u8 z] w (Quiet (.bool false) w) := by
  have HC := hd (rnext_any R s i c z hz false (decide_eq_false hc) w h hs)
  clear h hz hc
  go_enter Tryd.func52, Tryd.ntmps52
  go_wp2_with fail
  refine HC.out.mono ?_
  rintro e w' ⟨rfl, kd, rfl⟩
  go_wp2
  go_ret
  exact ret_quiet rfl (by first | exact ⟨_, rfl⟩ | exact ⟨_, World.drewN_drewN _ _ _⟩ | exact ⟨_, (World.drewN_drewN _ _ _).trans (World.drewN_drewN _ _ _)⟩)
def Taken (R : Nat) (s : ByteArray) (j : Nat) (v : Value) (w : World) (e : Ending) (w' : World) : Prop := e = .returned v ∧ Rd R s j w' ∧ OffB R w.heap.size w w'
set_option maxRecDepth 4000 in
theorem take_yes (R : Nat) (s : ByteArray) (i : Nat) (c : UInt8) (z : Int) (hz : z = c.toNat) (w : World) (h : Rd R s i w) (hs : s.size ≤ 1000000) (hc : atB s i = some c) :
    Calls Tryd.prog 52 #[.pointer (some ⟨R, 0, none⟩), .int .u8 z] w (Taken R s (i + 1) (.bool true) w) := by
  have HC := hd (rnext_any R s i c z hz true (decide_eq_true hc) w h hs)
  have hi := atB_lt hc
  have HR := hd h
  clear h hz hc
  go_enter Tryd.func52, Tryd.ntmps52
  go_wp2_with fail
  refine HC.out.mono ?_
  rintro e w' ⟨rfl, kd, rfl⟩
  have HR2 := hd (HR.out.drewN kd)
  obtain ⟨x0, x1, x2⟩ := HR2.out.cells
  go_wp2
  go_ret
  exact ⟨rfl, by have := HR2.out.set (i + 1); simpa using this, ((OffB.refl _ _ _).drewN kd).set 1 _⟩

set_option maxRecDepth 4000 in
/-- What a byte may stand in. -/
theorem standsIn_any (c : UInt8) (z : Int) (hz : z = c.toNat) (w : World) (r : Int) (hr : (if isLet c = true then 3 else if isVal c = true then 2 else 0) = r) :
    Calls Tryd.prog 101 #[.int .u8 z] w (Pure (.int .i64 r) w) := by
  have hb := c.toNat_lt
  have h1 : isLet c = (decide (97 ≤ z) && decide (z ≤ 122)) := by unfold isLet; rw [hz]
  have h2 : isVal c = (isLet c || (decide (48 ≤ z) && decide (z ≤ 57)) || (z == 45)) := by unfold isVal isDig; rw [hz]
  by_cases a1 : 97 ≤ z
  · by_cases a2 : z ≤ 122
    · have e : r = 3 := by rw [← hr, h1]; simp [a1, a2]
      clear hr h1 h2 hz hb
      subst e
      go_enter Tryd.func101, Tryd.ntmps101
      go_wp2
      go_ret
      exact pure_ret rfl
    · have e : r = 0 := by rw [← hr, h2, h1]; simp [a2]; omega
      have g1 : (z == 45) = false := by simp; omega
      have g2 : decide (z ≤ 57) = false := by simp; omega
      have g3 : 48 ≤ z := by omega
      have g4 : decide (z ≤ 122) = false := by simp; omega
      clear hr h1 h2 hz hb
      subst e
      go_enter Tryd.func101, Tryd.ntmps101
      go_wp2
      go_ret
      exact pure_ret rfl
  · have g4 : decide (97 ≤ z) = false := by simp; omega
    by_cases a3 : 48 ≤ z
    · by_cases a4 : z ≤ 57
      · have e : r = 2 := by rw [← hr, h2, h1]; simp [a1, a3, a4]
        clear hr h1 h2 hz hb
        subst e
        go_enter Tryd.func101, Tryd.ntmps101
        go_wp2
        go_ret
        exact pure_ret rfl
      · have e : r = 0 := by rw [← hr, h2, h1]; simp [a1, a4]; omega
        have g1 : (z == 45) = false := by simp; omega
        have g2 : decide (z ≤ 57) = false := by simp; omega
        clear hr h1 h2 hz hb
        subst e
        go_enter Tryd.func101, Tryd.ntmps101
        go_wp2
        go_ret
        exact pure_ret rfl
    · have g2 : decide (48 ≤ z) = false := by simp; omega
      by_cases a5 : z = 45
      · have e : r = 2 := by rw [← hr, h2, h1]; simp [a5]
        clear hr h1 h2 hz hb
        subst e a5
        go_enter Tryd.func101, Tryd.ntmps101
        go_wp2
        go_ret
        exact pure_ret rfl
      · have e : r = 0 := by rw [← hr, h2, h1]; simp [a1, a3, a5]
        have g1 : (z == 45) = false := by simpa using a5
        clear hr h1 h2 hz hb
        subst e
        go_enter Tryd.func101, Tryd.ntmps101
        go_wp2
        go_ret
        exact pure_ret rfl

set_option maxRecDepth 4000 in
theorem sclone_any (s : ByteArray) (w : World) (h : s.size ≤ 1000000) : Calls Tryd.prog 102 #[.string s] w (Still (.string s) w) := by
  have HC := hd (stringslite_Clone s w (by omega))
  clear h
  go_enter Tryd.func102, Tryd.ntmps102
  go_wp2_with fail
  refine HC.out.mono ?_
  rintro e w' ⟨rfl, hb⟩
  go_wp2
  go_ret
  exact ⟨rfl, hb⟩

set_option maxRecDepth 4000 in
theorem ex_data (s : ByteArray) (i j : Nat) : (s.extract i j).data.toList = cutS s.data.toList i j := by
  have h := congrArg (fun t : ByteArray => t.data.toList) (ByteArray.extract_mk s.data.toList i j)
  have e : (s.data.toList.drop i).take (j - i) = cutS s.data.toList i j := by unfold cutS; rw [List.drop_take]
  rw [← e]
  exact h
set_option maxRecDepth 4000 in
theorem ex_mk (s : ByteArray) (i j : Nat) : s.extract i j = mkB (cutS s.data.toList i j) := by
  rw [← ex_data, mkB_of]
set_option maxRecDepth 4000 in
theorem mkB_cut_size (s : ByteArray) (i j : Nat) (h : j ≤ s.size) : (mkB (cutS s.data.toList i j)).size = j - i := by
  rw [mkB_size, cutS_len _ _ _ (by rw [data_size]; exact h)]

set_option maxRecDepth 4000 in
/-- How far a word goes, byte by byte. -/
theorem endB_step {f : UInt8 → Bool} {s : ByteArray} {k : Nat} {c : UInt8} (h : atB s k = some c) (hf : f c = true) : endL f s.data.toList k = endL f s.data.toList (k + 1) := endL_step h hf
set_option maxRecDepth 4000 in
theorem endB_stop {f : UInt8 → Bool} {s : ByteArray} {k : Nat} (h : ∀ c, atB s k = some c → f c = false) : endL f s.data.toList k = k := endL_stop h
set_option maxRecDepth 4000 in
theorem endB_le {f : UInt8 → Bool} {s : ByteArray} {k : Nat} (h : k ≤ s.size) : endL f s.data.toList k ≤ s.size := by
  have := endL_le (f := f) (s := s.data.toList) (i := k) (by rw [data_size]; exact h)
  rwa [data_size] at this

/-- How far the reader has come. -/
def rpos (R : Nat) (w : World) : Nat := match w.cell? ⟨R, 1, none⟩ with | some (.int _ i) => i.toNat | _ => 0
set_option maxRecDepth 4000 in
theorem Rd.rpos_eq {R i : Nat} {s : ByteArray} {w : World} (h : Rd R s i w) : rpos R w = i := by unfold rpos; rw [h.cells.2.1]; simp
set_option maxRecDepth 4000 in
theorem Rd.read {R B i : Nat} {s : ByteArray} {w w' : World} (h : Rd R s i w') (hb : OffB R B w w') (n : Nat) : OffB R B w (w'.drewN n) ∧ Rd R s i (w'.drewN n) := ⟨hb.drewN n, h.drewN n⟩
set_option maxRecDepth 4000 in
theorem byteInt (c : UInt8) : ∃ z : Int, (c.toNat : Int) = z ∧ 0 ≤ z ∧ z < 256 := ⟨_, rfl, by omega, by have := c.toNat_lt; omega⟩
set_option maxRecDepth 4000 in
theorem quiet_of_pure {f : FuncId} {args : Array Value} {v : Value} {w : World} {n : Nat} (h : Calls Tryd.prog f args (w.drewN n) (Pure v (w.drewN n))) :
    Calls Tryd.prog f args (w.drewN n) fun e w' => e = .returned v ∧ ∃ m, w' = w.drewN m := h.mono fun _ _ ⟨he, hw⟩ => ⟨he, n, hw.symm⟩

set_option maxRecDepth 4000 in
theorem stands_cases (c : UInt8) : (isLet c = true ∧ isVal c = true ∧ (if isLet c = true then (3 : Int) else if isVal c = true then 2 else 0) = 3) ∨ (isLet c = false ∧ isVal c = true ∧ (if isLet c = true then (3 : Int) else if isVal c = true then 2 else 0) = 2) ∨ (isLet c = false ∧ isVal c = false ∧ (if isLet c = true then (3 : Int) else if isVal c = true then 2 else 0) = 0) := by
  cases h1 : isLet c
  · cases h2 : isVal c
    · simp
    · simp
  · have h2 : isVal c = true := by unfold isVal; rw [h1]; rfl
    simp [h2]

set_option maxRecDepth 4000 in
set_option maxHeartbeats 4000000 in
theorem wordKey_any (R : Nat) (s : ByteArray) (i : Nat) (w : World) (h : Rd R s i w) (hi : i ≤ s.size) (hs : s.size ≤ 1000000) :
    Calls Tryd.prog 94 #[.pointer (some ⟨R, 0, none⟩), .int .i64 1] w (Taken R s (endL isLet s.data.toList i) (.string (mkB (cutS s.data.toList i (endL isLet s.data.toList i)))) w) := by
  obtain ⟨x0, x1, x2⟩ := h.cells
  have HR := hd h
  clear h
  go_enter Tryd.func94, Tryd.ntmps94
  go_wp2_with fail
  clear x0 x1 x2
  go_loopw [] (fun wr => ∃ k : Nat, i ≤ k ∧ k ≤ s.size ∧ Hid (Rd R s k wr) ∧ Hid (endL isLet s.data.toList i = endL isLet s.data.toList k) ∧ Hid (OffB R w.heap.size w wr)) (fun wr => s.size - rpos R wr)
  case atStart => exact ⟨i, Nat.le_refl _, hi, HR, rfl, OffB.refl _ _ _⟩
  case round =>
    obtain ⟨k, hk1, hk2, HK, HE, HO⟩ := hrel
    have hpos := HK.out.rpos_eq
    obtain ⟨x0, x1, x2⟩ := HK.out.cells
    have HKO := hd (fun n => HK.out.read HO.out n)
    by_cases hlt : k < s.size
    · have hlt' : (k : Int) < (s.size : Int) := by omega
      obtain ⟨x, hx, hx0, hx1⟩ := byteInt s[k]
      have HA := hd (atB_some hlt)
      have hc := fun (r : Int) (e : (if isLet s[k] = true then (3 : Int) else if isVal s[k] = true then 2 else 0) = r) (n : Nat) => standsIn_any s[k] x hx.symm (wr.drewN n) r e
      rcases stands_cases s[k] with ⟨h1, h2, hr⟩ | ⟨h1, h2, hr⟩ | ⟨h1, h2, hr⟩
      · have HC := hd (hc 3 hr)
        have HF := hd (HE.out.trans (endB_step HA.out h1))
        have g1 : (bits BinOp.and IntKind.i64 3 1 != 0) = true := by decide
        clear hc HK HE HO
        go_wp2_with fail
        go_quiet ((go_at_call 101; exact quiet_of_pure (HC.out _)))
        obtain ⟨HO2, HK2⟩ := HKO.out nq
        have HO2 := hd HO2
        have HK2 := hd HK2
        obtain ⟨y0, y1, y2⟩ := HK2.out.cells
        have HK3 := hd (HK2.out.set (k + 1))
        have HP3 := hd HK3.out.rpos_eq
        go_wp2
        go_roundw
        case rel => exact ⟨k + 1, by omega, by omega, by have := HK3; simpa using this, HF, hd (HO2.out.set 1 _)⟩
        case measure => rw [show ((k : Int) + 1) = ((k + 1 : Nat) : Int) by omega, HP3.out, hpos]; omega
      · have HC := hd (hc 2 hr)
        have g1 : (bits BinOp.and IntKind.i64 2 1 != 0) = false := by decide
        have HF := hd (show endL isLet s.data.toList i = k from HE.out.trans (endB_stop fun c h => by rw [HA.out] at h; injection h with h; rw [← h]; exact h1))
        clear hc HK HE HO
        go_wp2_with fail
        go_quiet ((go_at_call 101; exact quiet_of_pure (HC.out _)))
        obtain ⟨HO2, HK2⟩ := HKO.out nq
        have hIO := hd HO2
        have hIK := hd HK2
        clear x0 x1 x2 HKO HO2 HK2
        generalize wr.drewN nq = W2 at hIO hIK ⊢
        obtain ⟨y0, y1, y2⟩ := hIK.out.cells
        have HX := hd (ex_mk s i k)
        have hxs := mkB_cut_size s i k hk2
        have HC2 := hd (fun (w2 : World) => sclone_any (mkB (cutS s.data.toList i k)) w2 (by omega))
        have hsz := hIO.out.size
        have hik : (i : Int) ≤ (k : Int) := by omega
        have hks : (k : Int) ≤ (s.size : Int) := by omega
        clear hxs
        go_wp2_with fail
        go_still_tail 10, (by kernel_rfl)
        rw [HX.out]
        show wpList _ _ _ _ _ W2.drew
        go_wp2_with fail
        refine (HC2.out _).mono ?_
        rintro e w2 ⟨rfl, hb2⟩
        go_wp2
        go_ret
        rw [HF.out]
        exact ⟨rfl, (hIK.out.below ((Below.refl _ _).drew)).below hb2, (hIO.out.trans (.of_below ((Below.refl _ _).drew) hsz)).trans (.of_below hb2 hsz)⟩
      · have HC := hd (hc 0 hr)
        have g1 : (bits BinOp.and IntKind.i64 0 1 != 0) = false := by decide
        have HF := hd (show endL isLet s.data.toList i = k from HE.out.trans (endB_stop fun c h => by rw [HA.out] at h; injection h with h; rw [← h]; exact h1))
        clear hc HK HE HO
        go_wp2_with fail
        go_quiet ((go_at_call 101; exact quiet_of_pure (HC.out _)))
        obtain ⟨HO2, HK2⟩ := HKO.out nq
        have hIO := hd HO2
        have hIK := hd HK2
        clear x0 x1 x2 HKO HO2 HK2
        generalize wr.drewN nq = W2 at hIO hIK ⊢
        obtain ⟨y0, y1, y2⟩ := hIK.out.cells
        have HX := hd (ex_mk s i k)
        have hxs := mkB_cut_size s i k hk2
        have HC2 := hd (fun (w2 : World) => sclone_any (mkB (cutS s.data.toList i k)) w2 (by omega))
        have hsz := hIO.out.size
        have hik : (i : Int) ≤ (k : Int) := by omega
        have hks : (k : Int) ≤ (s.size : Int) := by omega
        clear hxs
        go_wp2_with fail
        go_still_tail 10, (by kernel_rfl)
        rw [HX.out]
        show wpList _ _ _ _ _ W2.drew
        go_wp2_with fail
        refine (HC2.out _).mono ?_
        rintro e w2 ⟨rfl, hb2⟩
        go_wp2
        go_ret
        rw [HF.out]
        exact ⟨rfl, (hIK.out.below ((Below.refl _ _).drew)).below hb2, (hIO.out.trans (.of_below ((Below.refl _ _).drew) hsz)).trans (.of_below hb2 hsz)⟩
    · have hlt' : decide (k < s.size) = false := decide_eq_false hlt
      have HF := hd (show endL isLet s.data.toList i = k from HE.out.trans (endB_stop fun c h => by rw [atB_none (by omega)] at h; cases h))
      clear HK HE HO hlt
      go_wp2_with fail
      go_quiet (fail)
      obtain ⟨HO2, HK2⟩ := HKO.out nq
      have hIO := hd HO2
      have hIK := hd HK2
      clear x0 x1 x2 HKO HO2 HK2
      generalize wr.drewN nq = W2 at hIO hIK ⊢
      obtain ⟨y0, y1, y2⟩ := hIK.out.cells
      have HX := hd (ex_mk s i k)
      have hxs := mkB_cut_size s i k hk2
      have HC2 := hd (fun (w2 : World) => sclone_any (mkB (cutS s.data.toList i k)) w2 (by omega))
      have hsz := hIO.out.size
      have hik : (i : Int) ≤ (k : Int) := by omega
      have hks : (k : Int) ≤ (s.size : Int) := by omega
      clear hxs
      go_wp2_with fail
      go_still_tail 10, (by kernel_rfl)
      rw [HX.out]
      show wpList _ _ _ _ _ W2.drew
      go_wp2_with fail
      refine (HC2.out _).mono ?_
      rintro e w2 ⟨rfl, hb2⟩
      go_wp2
      go_ret
      rw [HF.out]
      exact ⟨rfl, (hIK.out.below ((Below.refl _ _).drew)).below hb2, (hIO.out.trans (.of_below ((Below.refl _ _).drew) hsz)).trans (.of_below hb2 hsz)⟩

set_option maxRecDepth 4000 in
set_option maxHeartbeats 4000000 in
theorem wordVal_any (R : Nat) (s : ByteArray) (i : Nat) (w : World) (h : Rd R s i w) (hi : i ≤ s.size) (hs : s.size ≤ 1000000) :
    Calls Tryd.prog 94 #[.pointer (some ⟨R, 0, none⟩), .int .i64 2] w (Taken R s (endL isVal s.data.toList i) (.string (mkB (cutS s.data.toList i (endL isVal s.data.toList i)))) w) := by
  obtain ⟨x0, x1, x2⟩ := h.cells
  have HR := hd h
  clear h
  go_enter Tryd.func94, Tryd.ntmps94
  go_wp2_with fail
  clear x0 x1 x2
  go_loopw [] (fun wr => ∃ k : Nat, i ≤ k ∧ k ≤ s.size ∧ Hid (Rd R s k wr) ∧ Hid (endL isVal s.data.toList i = endL isVal s.data.toList k) ∧ Hid (OffB R w.heap.size w wr)) (fun wr => s.size - rpos R wr)
  case atStart => exact ⟨i, Nat.le_refl _, hi, HR, rfl, OffB.refl _ _ _⟩
  case round =>
    obtain ⟨k, hk1, hk2, HK, HE, HO⟩ := hrel
    have hpos := HK.out.rpos_eq
    obtain ⟨x0, x1, x2⟩ := HK.out.cells
    have HKO := hd (fun n => HK.out.read HO.out n)
    by_cases hlt : k < s.size
    · have hlt' : (k : Int) < (s.size : Int) := by omega
      obtain ⟨x, hx, hx0, hx1⟩ := byteInt s[k]
      have HA := hd (atB_some hlt)
      have hc := fun (r : Int) (e : (if isLet s[k] = true then (3 : Int) else if isVal s[k] = true then 2 else 0) = r) (n : Nat) => standsIn_any s[k] x hx.symm (wr.drewN n) r e
      rcases stands_cases s[k] with ⟨h1, h2, hr⟩ | ⟨h1, h2, hr⟩ | ⟨h1, h2, hr⟩
      · have HC := hd (hc 3 hr)
        have HF := hd (HE.out.trans (endB_step HA.out h2))
        have g1 : (bits BinOp.and IntKind.i64 3 2 != 0) = true := by decide
        clear hc HK HE HO
        go_wp2_with fail
        go_quiet ((go_at_call 101; exact quiet_of_pure (HC.out _)))
        obtain ⟨HO2, HK2⟩ := HKO.out nq
        have HO2 := hd HO2
        have HK2 := hd HK2
        obtain ⟨y0, y1, y2⟩ := HK2.out.cells
        have HK3 := hd (HK2.out.set (k + 1))
        have HP3 := hd HK3.out.rpos_eq
        go_wp2
        go_roundw
        case rel => exact ⟨k + 1, by omega, by omega, by have := HK3; simpa using this, HF, hd (HO2.out.set 1 _)⟩
        case measure => rw [show ((k : Int) + 1) = ((k + 1 : Nat) : Int) by omega, HP3.out, hpos]; omega
      · have HC := hd (hc 2 hr)
        have HF := hd (HE.out.trans (endB_step HA.out h2))
        have g1 : (bits BinOp.and IntKind.i64 2 2 != 0) = true := by decide
        clear hc HK HE HO
        go_wp2_with fail
        go_quiet ((go_at_call 101; exact quiet_of_pure (HC.out _)))
        obtain ⟨HO2, HK2⟩ := HKO.out nq
        have HO2 := hd HO2
        have HK2 := hd HK2
        obtain ⟨y0, y1, y2⟩ := HK2.out.cells
        have HK3 := hd (HK2.out.set (k + 1))
        have HP3 := hd HK3.out.rpos_eq
        go_wp2
        go_roundw
        case rel => exact ⟨k + 1, by omega, by omega, by have := HK3; simpa using this, HF, hd (HO2.out.set 1 _)⟩
        case measure => rw [show ((k : Int) + 1) = ((k + 1 : Nat) : Int) by omega, HP3.out, hpos]; omega
      · have HC := hd (hc 0 hr)
        have g1 : (bits BinOp.and IntKind.i64 0 2 != 0) = false := by decide
        have HF := hd (show endL isVal s.data.toList i = k from HE.out.trans (endB_stop fun c h => by rw [HA.out] at h; injection h with h; rw [← h]; exact h2))
        clear hc HK HE HO
        go_wp2_with fail
        go_quiet ((go_at_call 101; exact quiet_of_pure (HC.out _)))
        obtain ⟨HO2, HK2⟩ := HKO.out nq
        have hIO := hd HO2
        have hIK := hd HK2
        clear x0 x1 x2 HKO HO2 HK2
        generalize wr.drewN nq = W2 at hIO hIK ⊢
        obtain ⟨y0, y1, y2⟩ := hIK.out.cells
        have HX := hd (ex_mk s i k)
        have hxs := mkB_cut_size s i k hk2
        have HC2 := hd (fun (w2 : World) => sclone_any (mkB (cutS s.data.toList i k)) w2 (by omega))
        have hsz := hIO.out.size
        have hik : (i : Int) ≤ (k : Int) := by omega
        have hks : (k : Int) ≤ (s.size : Int) := by omega
        clear hxs
        go_wp2_with fail
        go_still_tail 10, (by kernel_rfl)
        rw [HX.out]
        show wpList _ _ _ _ _ W2.drew
        go_wp2_with fail
        refine (HC2.out _).mono ?_
        rintro e w2 ⟨rfl, hb2⟩
        go_wp2
        go_ret
        rw [HF.out]
        exact ⟨rfl, (hIK.out.below ((Below.refl _ _).drew)).below hb2, (hIO.out.trans (.of_below ((Below.refl _ _).drew) hsz)).trans (.of_below hb2 hsz)⟩
    · have hlt' : decide (k < s.size) = false := decide_eq_false hlt
      have HF := hd (show endL isVal s.data.toList i = k from HE.out.trans (endB_stop fun c h => by rw [atB_none (by omega)] at h; cases h))
      clear HK HE HO hlt
      go_wp2_with fail
      go_quiet (fail)
      obtain ⟨HO2, HK2⟩ := HKO.out nq
      have hIO := hd HO2
      have hIK := hd HK2
      clear x0 x1 x2 HKO HO2 HK2
      generalize wr.drewN nq = W2 at hIO hIK ⊢
      obtain ⟨y0, y1, y2⟩ := hIK.out.cells
      have HX := hd (ex_mk s i k)
      have hxs := mkB_cut_size s i k hk2
      have HC2 := hd (fun (w2 : World) => sclone_any (mkB (cutS s.data.toList i k)) w2 (by omega))
      have hsz := hIO.out.size
      have hik : (i : Int) ≤ (k : Int) := by omega
      have hks : (k : Int) ≤ (s.size : Int) := by omega
      clear hxs
      go_wp2_with fail
      go_still_tail 10, (by kernel_rfl)
      rw [HX.out]
      show wpList _ _ _ _ _ W2.drew
      go_wp2_with fail
      refine (HC2.out _).mono ?_
      rintro e w2 ⟨rfl, hb2⟩
      go_wp2
      go_ret
      rw [HF.out]
      exact ⟨rfl, (hIK.out.below ((Below.refl _ _).drew)).below hb2, (hIO.out.trans (.of_below ((Below.refl _ _).drew) hsz)).trans (.of_below hb2 hsz)⟩

end Go.Proofs.YtknkclbjocfhiaaDoor
